/-
  No cell of these rows narrows 'for every input' (looked for: loops, veiled, ifaces, maps, wideKeys, modest, calm, conditions, laid).
  DERIVED. THE GIVEN ROWS OF THIS SEAT. 3 by the template 'for every input the law returns true; each argument reads behind the call as it read before'; 0 by the template 'total and deterministic' (their statements: YtfcbfjdkmeiicaaTotals.lean).
  GIVEN WITH THE SEED: the statements are not yours to turn. If you find one false, say at which input.
  Laid BY PROGRAM, IN A SANDBOX (cutbox-rows.mjs): the forced cells as the released guide's own fill.sh prints them over the translation ded99f92f1d605f7… (all of the seat's roots in one cut). By AI agents, Wed Nov 11 2026. No macro, syntax, notation, axiom, sorry.
-/
import Derived.Test.YtfcbfjdkmeiicaaChecked
import GoSem.Claim
import GoSem.ClaimJoined
import GoSem.ClaimMapViews
import Derived.JoinedTies
import Derived.KernelRfl
namespace Go.Proofs.Ytfcbfjdkmeiicaa
/- THE CELL 'sum', in the pinned program and in every row, IS THE sha256 OF THE DUMP (.gsa) THAT YtfcbfjdkmeiicaaProg.lean LOADS. Nothing in Lean hashes anything: it is a label: what it is worth is what the hold of that sum in a sandbox is worth. -/
noncomputable def Try.pinned : Pinned := { name := "ytfcbfjdkmeiicaa", sum := "ded99f92f1d605f7e9c14759bf7d73b07f0b724d71313547b13bf6be77b8fc21", checked := Try.checked }
namespace Rows
def none {H : Type} : Left H := { results := [], args := [] }

/-- 'laws.FnExactPitchValid': WHATEVER THE INPUT: true; the input reads as it did. -/
def fnExactPitchValidSpec : ChangeSpec := { name := "fnExactPitchValid", fn := fun _ => fun
  | [d] => { results := [.lit (.bool true)], args := [d] }
  | _ => none }
def fnExactPitchValidRow : OpenClaim := { program := "ytfcbfjdkmeiicaa", sum := "ded99f92f1d605f7e9c14759bf7d73b07f0b724d71313547b13bf6be77b8fc21", func := "loop.example/musicengine/laws.FnExactPitchValid", spec := "fnExactPitchValid", apart := false }
def FnExactPitchValidSaid : Prop := fnExactPitchValidRow.holds Try.pinned (OpenSpec.ofChange fnExactPitchValidSpec)

/-- ITS FALSE NEIGHBOUR: 'it returns false'. Refute it at one input. -/
def fnExactPitchValidWrong : ChangeSpec := { name := "fnExactPitchValid", fn := fun _ => fun
  | [d] => { results := [.lit (.bool false)], args := [d] }
  | _ => none }
def FnExactPitchValidWrongFalsely : Prop := fnExactPitchValidRow.holds Try.pinned (OpenSpec.ofChange fnExactPitchValidWrong)

/-- 'laws.FnExactPitchPlace': WHATEVER THE INPUT: true; the input reads as it did. -/
def fnExactPitchPlaceSpec : ChangeSpec := { name := "fnExactPitchPlace", fn := fun _ => fun
  | [d] => { results := [.lit (.bool true)], args := [d] }
  | _ => none }
def fnExactPitchPlaceRow : OpenClaim := { program := "ytfcbfjdkmeiicaa", sum := "ded99f92f1d605f7e9c14759bf7d73b07f0b724d71313547b13bf6be77b8fc21", func := "loop.example/musicengine/laws.FnExactPitchPlace", spec := "fnExactPitchPlace", apart := false }
def FnExactPitchPlaceSaid : Prop := fnExactPitchPlaceRow.holds Try.pinned (OpenSpec.ofChange fnExactPitchPlaceSpec)

/-- ITS FALSE NEIGHBOUR: 'it returns false'. Refute it at one input. -/
def fnExactPitchPlaceWrong : ChangeSpec := { name := "fnExactPitchPlace", fn := fun _ => fun
  | [d] => { results := [.lit (.bool false)], args := [d] }
  | _ => none }
def FnExactPitchPlaceWrongFalsely : Prop := fnExactPitchPlaceRow.holds Try.pinned (OpenSpec.ofChange fnExactPitchPlaceWrong)

/-- 'laws.FnExactReadPitch': WHATEVER THE INPUT: true; the input reads as it did. -/
def fnExactReadPitchSpec : ChangeSpec := { name := "fnExactReadPitch", fn := fun _ => fun
  | [d] => { results := [.lit (.bool true)], args := [d] }
  | _ => none }
def fnExactReadPitchRow : OpenClaim := { program := "ytfcbfjdkmeiicaa", sum := "ded99f92f1d605f7e9c14759bf7d73b07f0b724d71313547b13bf6be77b8fc21", func := "loop.example/musicengine/laws.FnExactReadPitch", spec := "fnExactReadPitch", inPlace := ["internal/abi.NoEscape", "internal/bytealg.MakeNoZero", "internal/bytealg.IndexByteString"], apart := false }
def FnExactReadPitchSaid : Prop := fnExactReadPitchRow.holds Try.pinned (OpenSpec.ofChange fnExactReadPitchSpec)

/-- ITS FALSE NEIGHBOUR: 'it returns false'. Refute it at one input. -/
def fnExactReadPitchWrong : ChangeSpec := { name := "fnExactReadPitch", fn := fun _ => fun
  | [d] => { results := [.lit (.bool false)], args := [d] }
  | _ => none }
def FnExactReadPitchWrongFalsely : Prop := fnExactReadPitchRow.holds Try.pinned (OpenSpec.ofChange fnExactReadPitchWrong)

/- THE SECOND FORM. 'bulk': how many values and letters a reading holds, each counted each time it is reached (what is shared counts as often as it is met; a slice's spare places count too). A statement '..UptoSaid' is the law's where the arguments, and the package variables that the reading takes, are together of bulk at most 1048576: NARROWER than '..Said'. Prove '..Said' where nothing that the law and all that it calls make is longer than what came in: it says more and counts as full. Else prove '..UptoSaid'. A law counts once. -/
mutual
def uptoBulk {H : Type} : DataW H → Nat
  | .lit (.string bytes) => bytes.length + 1
  | .lit _ => 1
  | .nil => 1
  | .ptr d => uptoBulk d + 1
  | .slice elems spare => uptoBulkAll elems + uptoBulkAll spare + 1
  | .agg parts => uptoBulkAll parts + 1
  | .iface _ d => uptoBulk d + 1
  | .map entries => uptoBulkEntries entries + 1
  | .held _ => 1
def uptoBulkAll {H : Type} : List (DataW H) → Nat
  | [] => 0
  | d :: r => uptoBulk d + uptoBulkAll r
def uptoBulkEntries {H : Type} : List (Lit × DataW H) → Nat
  | [] => 0
  | x :: r => uptoBulkEntry x + uptoBulkEntries r
def uptoBulkEntry {H : Type} : Lit × DataW H → Nat
  | (.string bytes, d) => bytes.length + uptoBulk d + 1
  | (_, d) => uptoBulk d + 1
 end
def uptoSmall : (H : Type) → List (DataW H) → Bool := fun _ ds => decide (uptoBulkAll ds ≤ 1048576)
def OpenSpec.upto (s : _root_.Go.ChangeSpec) : _root_.Go.OpenSpec := { _root_.Go.OpenSpec.ofChange s with cond := some uptoSmall }

/-- 'laws.FnExactPitchValid', WHERE WHAT IT READS IS OF BULK AT MOST 1048576: true; the input reads as it did. -/
def fnExactPitchValidUptoRow : OpenClaim := { program := "ytfcbfjdkmeiicaa", sum := "ded99f92f1d605f7e9c14759bf7d73b07f0b724d71313547b13bf6be77b8fc21", func := "loop.example/musicengine/laws.FnExactPitchValid", spec := "fnExactPitchValid", apart := false, narrowed := true }
def FnExactPitchValidUptoSaid : Prop := fnExactPitchValidUptoRow.holds Try.pinned (OpenSpec.upto fnExactPitchValidSpec)

/-- 'laws.FnExactPitchPlace', WHERE WHAT IT READS IS OF BULK AT MOST 1048576: true; the input reads as it did. -/
def fnExactPitchPlaceUptoRow : OpenClaim := { program := "ytfcbfjdkmeiicaa", sum := "ded99f92f1d605f7e9c14759bf7d73b07f0b724d71313547b13bf6be77b8fc21", func := "loop.example/musicengine/laws.FnExactPitchPlace", spec := "fnExactPitchPlace", apart := false, narrowed := true }
def FnExactPitchPlaceUptoSaid : Prop := fnExactPitchPlaceUptoRow.holds Try.pinned (OpenSpec.upto fnExactPitchPlaceSpec)

/-- 'laws.FnExactReadPitch', WHERE WHAT IT READS IS OF BULK AT MOST 1048576: true; the input reads as it did. -/
def fnExactReadPitchUptoRow : OpenClaim := { program := "ytfcbfjdkmeiicaa", sum := "ded99f92f1d605f7e9c14759bf7d73b07f0b724d71313547b13bf6be77b8fc21", func := "loop.example/musicengine/laws.FnExactReadPitch", spec := "fnExactReadPitch", inPlace := ["internal/abi.NoEscape", "internal/bytealg.MakeNoZero", "internal/bytealg.IndexByteString"], apart := false, narrowed := true }
def FnExactReadPitchUptoSaid : Prop := fnExactReadPitchUptoRow.holds Try.pinned (OpenSpec.upto fnExactReadPitchSpec)

end Rows
end Go.Proofs.Ytfcbfjdkmeiicaa
