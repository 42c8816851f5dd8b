/-
  No cell of these rows narrows 'for every input' (looked for: loops, veiled, ifaces, maps, wideKeys, modest, calm, conditions, laid).
  DERIVED. THE GIVEN ROWS OF THIS SEAT. 3 by the template 'for every input the law returns true; each argument reads behind the call as it read before'; 0 by the template 'total and deterministic' (their statements: YtepelgaekgllcaaTotals.lean).
  GIVEN WITH THE SEED: the statements are not yours to turn. If you find one false, say at which input.
  Laid BY PROGRAM, IN A SANDBOX (cutbox-rows.mjs): the forced cells as the released guide's own fill.sh prints them over the translation 7ef4186c941d2db6… (all of the seat's roots in one cut). By AI agents, Wed Nov 11 2026. No macro, syntax, notation, axiom, sorry.
-/
import Derived.Test.YtepelgaekgllcaaChecked
import GoSem.Claim
import GoSem.ClaimJoined
import GoSem.ClaimMapViews
import Derived.JoinedTies
import Derived.KernelRfl
namespace Go.Proofs.Ytepelgaekgllcaa
/- THE CELL 'sum', in the pinned program and in every row, IS THE sha256 OF THE DUMP (.gsa) THAT YtepelgaekgllcaaProg.lean LOADS. Nothing in Lean hashes anything: it is a label: what it is worth is what the hold of that sum in a sandbox is worth. -/
noncomputable def Try.pinned : Pinned := { name := "ytepelgaekgllcaa", sum := "7ef4186c941d2db6ba41952a17bfbe56c4c58405b29d6277118a85e9e7d5251f", checked := Try.checked }
namespace Rows
def none {H : Type} : Left H := { results := [], args := [] }

/-- 'laws.FnExactNoteValid': WHATEVER THE INPUT: true; the input reads as it did. -/
def fnExactNoteValidSpec : ChangeSpec := { name := "fnExactNoteValid", fn := fun _ => fun
  | [d] => { results := [.lit (.bool true)], args := [d] }
  | _ => none }
def fnExactNoteValidRow : OpenClaim := { program := "ytepelgaekgllcaa", sum := "7ef4186c941d2db6ba41952a17bfbe56c4c58405b29d6277118a85e9e7d5251f", func := "loop.example/musicengine/laws.FnExactNoteValid", spec := "fnExactNoteValid", apart := false }
def FnExactNoteValidSaid : Prop := fnExactNoteValidRow.holds Try.pinned (OpenSpec.ofChange fnExactNoteValidSpec)

/-- ITS FALSE NEIGHBOUR: 'it returns false'. Refute it at one input. -/
def fnExactNoteValidWrong : ChangeSpec := { name := "fnExactNoteValid", fn := fun _ => fun
  | [d] => { results := [.lit (.bool false)], args := [d] }
  | _ => none }
def FnExactNoteValidWrongFalsely : Prop := fnExactNoteValidRow.holds Try.pinned (OpenSpec.ofChange fnExactNoteValidWrong)

/-- 'laws.FnExactVoiceValid': WHATEVER THE INPUT: true; the input reads as it did. -/
def fnExactVoiceValidSpec : ChangeSpec := { name := "fnExactVoiceValid", fn := fun _ => fun
  | [d] => { results := [.lit (.bool true)], args := [d] }
  | _ => none }
def fnExactVoiceValidRow : OpenClaim := { program := "ytepelgaekgllcaa", sum := "7ef4186c941d2db6ba41952a17bfbe56c4c58405b29d6277118a85e9e7d5251f", func := "loop.example/musicengine/laws.FnExactVoiceValid", spec := "fnExactVoiceValid", apart := false }
def FnExactVoiceValidSaid : Prop := fnExactVoiceValidRow.holds Try.pinned (OpenSpec.ofChange fnExactVoiceValidSpec)

/-- ITS FALSE NEIGHBOUR: 'it returns false'. Refute it at one input. -/
def fnExactVoiceValidWrong : ChangeSpec := { name := "fnExactVoiceValid", fn := fun _ => fun
  | [d] => { results := [.lit (.bool false)], args := [d] }
  | _ => none }
def FnExactVoiceValidWrongFalsely : Prop := fnExactVoiceValidRow.holds Try.pinned (OpenSpec.ofChange fnExactVoiceValidWrong)

/-- 'laws.FnExactVoiceTicks': WHATEVER THE INPUT: true; the input reads as it did. -/
def fnExactVoiceTicksSpec : ChangeSpec := { name := "fnExactVoiceTicks", fn := fun _ => fun
  | [d] => { results := [.lit (.bool true)], args := [d] }
  | _ => none }
def fnExactVoiceTicksRow : OpenClaim := { program := "ytepelgaekgllcaa", sum := "7ef4186c941d2db6ba41952a17bfbe56c4c58405b29d6277118a85e9e7d5251f", func := "loop.example/musicengine/laws.FnExactVoiceTicks", spec := "fnExactVoiceTicks", apart := false }
def FnExactVoiceTicksSaid : Prop := fnExactVoiceTicksRow.holds Try.pinned (OpenSpec.ofChange fnExactVoiceTicksSpec)

/-- ITS FALSE NEIGHBOUR: 'it returns false'. Refute it at one input. -/
def fnExactVoiceTicksWrong : ChangeSpec := { name := "fnExactVoiceTicks", fn := fun _ => fun
  | [d] => { results := [.lit (.bool false)], args := [d] }
  | _ => none }
def FnExactVoiceTicksWrongFalsely : Prop := fnExactVoiceTicksRow.holds Try.pinned (OpenSpec.ofChange fnExactVoiceTicksWrong)

/- THE SECOND FORM. 'bulk': how many values and letters a reading holds, each counted each time it is reached (what is shared counts as often as it is met; a slice's spare places count too). A statement '..UptoSaid' is the law's where the arguments, and the package variables that the reading takes, are together of bulk at most 1048576: NARROWER than '..Said'. Prove '..Said' where nothing that the law and all that it calls make is longer than what came in: it says more and counts as full. Else prove '..UptoSaid'. A law counts once. -/
mutual
def uptoBulk {H : Type} : DataW H → Nat
  | .lit (.string bytes) => bytes.length + 1
  | .lit _ => 1
  | .nil => 1
  | .ptr d => uptoBulk d + 1
  | .slice elems spare => uptoBulkAll elems + uptoBulkAll spare + 1
  | .agg parts => uptoBulkAll parts + 1
  | .iface _ d => uptoBulk d + 1
  | .map entries => uptoBulkEntries entries + 1
  | .held _ => 1
def uptoBulkAll {H : Type} : List (DataW H) → Nat
  | [] => 0
  | d :: r => uptoBulk d + uptoBulkAll r
def uptoBulkEntries {H : Type} : List (Lit × DataW H) → Nat
  | [] => 0
  | x :: r => uptoBulkEntry x + uptoBulkEntries r
def uptoBulkEntry {H : Type} : Lit × DataW H → Nat
  | (.string bytes, d) => bytes.length + uptoBulk d + 1
  | (_, d) => uptoBulk d + 1
 end
def uptoSmall : (H : Type) → List (DataW H) → Bool := fun _ ds => decide (uptoBulkAll ds ≤ 1048576)
def OpenSpec.upto (s : _root_.Go.ChangeSpec) : _root_.Go.OpenSpec := { _root_.Go.OpenSpec.ofChange s with cond := some uptoSmall }

/-- 'laws.FnExactNoteValid', WHERE WHAT IT READS IS OF BULK AT MOST 1048576: true; the input reads as it did. -/
def fnExactNoteValidUptoRow : OpenClaim := { program := "ytepelgaekgllcaa", sum := "7ef4186c941d2db6ba41952a17bfbe56c4c58405b29d6277118a85e9e7d5251f", func := "loop.example/musicengine/laws.FnExactNoteValid", spec := "fnExactNoteValid", apart := false, narrowed := true }
def FnExactNoteValidUptoSaid : Prop := fnExactNoteValidUptoRow.holds Try.pinned (OpenSpec.upto fnExactNoteValidSpec)

/-- 'laws.FnExactVoiceValid', WHERE WHAT IT READS IS OF BULK AT MOST 1048576: true; the input reads as it did. -/
def fnExactVoiceValidUptoRow : OpenClaim := { program := "ytepelgaekgllcaa", sum := "7ef4186c941d2db6ba41952a17bfbe56c4c58405b29d6277118a85e9e7d5251f", func := "loop.example/musicengine/laws.FnExactVoiceValid", spec := "fnExactVoiceValid", apart := false, narrowed := true }
def FnExactVoiceValidUptoSaid : Prop := fnExactVoiceValidUptoRow.holds Try.pinned (OpenSpec.upto fnExactVoiceValidSpec)

/-- 'laws.FnExactVoiceTicks', WHERE WHAT IT READS IS OF BULK AT MOST 1048576: true; the input reads as it did. -/
def fnExactVoiceTicksUptoRow : OpenClaim := { program := "ytepelgaekgllcaa", sum := "7ef4186c941d2db6ba41952a17bfbe56c4c58405b29d6277118a85e9e7d5251f", func := "loop.example/musicengine/laws.FnExactVoiceTicks", spec := "fnExactVoiceTicks", apart := false, narrowed := true }
def FnExactVoiceTicksUptoSaid : Prop := fnExactVoiceTicksUptoRow.holds Try.pinned (OpenSpec.upto fnExactVoiceTicksSpec)

end Rows
end Go.Proofs.Ytepelgaekgllcaa
