/-
  No cell of these rows narrows 'for every input' (looked for: loops, veiled, ifaces, maps, wideKeys, modest, calm, conditions, laid).
  DERIVED. THE GIVEN ROWS OF THIS SEAT. 5 by the template 'for every input the law returns true; each argument reads behind the call as it read before'; 0 by the template 'total and deterministic' (their statements: YtpfefbpmchigeaaTotals.lean).
  GIVEN WITH THE SEED: the statements are not yours to turn. If you find one false, say at which input.
  Laid BY PROGRAM, IN A SANDBOX (cutbox-rows.mjs): the forced cells as the released guide's own fill.sh prints them over the translation b56871f5eabde6fd… (all of the seat's roots in one cut). By AI agents, Wed Nov 11 2026. No macro, syntax, notation, axiom, sorry.
-/
import Derived.Test.YtpfefbpmchigeaaChecked
import GoSem.Claim
import GoSem.ClaimJoined
import GoSem.ClaimMapViews
import Derived.JoinedTies
import Derived.KernelRfl
namespace Go.Proofs.Ytpfefbpmchigeaa
/- THE CELL 'sum', in the pinned program and in every row, IS THE sha256 OF THE DUMP (.gsa) THAT YtpfefbpmchigeaaProg.lean LOADS. Nothing in Lean hashes anything: it is a label: what it is worth is what the hold of that sum in a sandbox is worth. -/
noncomputable def Try.pinned : Pinned := { name := "ytpfefbpmchigeaa", sum := "b56871f5eabde6fd69a535ed53898f41bf67d3b05d5a0be5cfd9de9254221a29", checked := Try.checked }
namespace Rows
def none {H : Type} : Left H := { results := [], args := [] }

/-- 'laws.FnExactSectionValid': WHATEVER THE INPUT: true; the input reads as it did. -/
def fnExactSectionValidSpec : ChangeSpec := { name := "fnExactSectionValid", fn := fun _ => fun
  | [d] => { results := [.lit (.bool true)], args := [d] }
  | _ => none }
def fnExactSectionValidRow : OpenClaim := { program := "ytpfefbpmchigeaa", sum := "b56871f5eabde6fd69a535ed53898f41bf67d3b05d5a0be5cfd9de9254221a29", func := "loop.example/musicengine/laws.FnExactSectionValid", spec := "fnExactSectionValid", apart := false }
def FnExactSectionValidSaid : Prop := fnExactSectionValidRow.holds Try.pinned (OpenSpec.ofChange fnExactSectionValidSpec)

/-- ITS FALSE NEIGHBOUR: 'it returns false'. Refute it at one input. -/
def fnExactSectionValidWrong : ChangeSpec := { name := "fnExactSectionValid", fn := fun _ => fun
  | [d] => { results := [.lit (.bool false)], args := [d] }
  | _ => none }
def FnExactSectionValidWrongFalsely : Prop := fnExactSectionValidRow.holds Try.pinned (OpenSpec.ofChange fnExactSectionValidWrong)

/-- 'laws.FnExactSectionsValid': WHATEVER THE INPUT: true; the input reads as it did. -/
def fnExactSectionsValidSpec : ChangeSpec := { name := "fnExactSectionsValid", fn := fun _ => fun
  | [d] => { results := [.lit (.bool true)], args := [d] }
  | _ => none }
def fnExactSectionsValidRow : OpenClaim := { program := "ytpfefbpmchigeaa", sum := "b56871f5eabde6fd69a535ed53898f41bf67d3b05d5a0be5cfd9de9254221a29", func := "loop.example/musicengine/laws.FnExactSectionsValid", spec := "fnExactSectionsValid", apart := false }
def FnExactSectionsValidSaid : Prop := fnExactSectionsValidRow.holds Try.pinned (OpenSpec.ofChange fnExactSectionsValidSpec)

/-- ITS FALSE NEIGHBOUR: 'it returns false'. Refute it at one input. -/
def fnExactSectionsValidWrong : ChangeSpec := { name := "fnExactSectionsValid", fn := fun _ => fun
  | [d] => { results := [.lit (.bool false)], args := [d] }
  | _ => none }
def FnExactSectionsValidWrongFalsely : Prop := fnExactSectionsValidRow.holds Try.pinned (OpenSpec.ofChange fnExactSectionsValidWrong)

/-- 'laws.FnExactWrittenBars': WHATEVER THE INPUT: true; the input reads as it did. -/
def fnExactWrittenBarsSpec : ChangeSpec := { name := "fnExactWrittenBars", fn := fun _ => fun
  | [d] => { results := [.lit (.bool true)], args := [d] }
  | _ => none }
def fnExactWrittenBarsRow : OpenClaim := { program := "ytpfefbpmchigeaa", sum := "b56871f5eabde6fd69a535ed53898f41bf67d3b05d5a0be5cfd9de9254221a29", func := "loop.example/musicengine/laws.FnExactWrittenBars", spec := "fnExactWrittenBars", apart := false }
def FnExactWrittenBarsSaid : Prop := fnExactWrittenBarsRow.holds Try.pinned (OpenSpec.ofChange fnExactWrittenBarsSpec)

/-- ITS FALSE NEIGHBOUR: 'it returns false'. Refute it at one input. -/
def fnExactWrittenBarsWrong : ChangeSpec := { name := "fnExactWrittenBars", fn := fun _ => fun
  | [d] => { results := [.lit (.bool false)], args := [d] }
  | _ => none }
def FnExactWrittenBarsWrongFalsely : Prop := fnExactWrittenBarsRow.holds Try.pinned (OpenSpec.ofChange fnExactWrittenBarsWrong)

/-- 'laws.FnExactPlayedOrder': WHATEVER THE INPUT: true; the input reads as it did. -/
def fnExactPlayedOrderSpec : ChangeSpec := { name := "fnExactPlayedOrder", fn := fun _ => fun
  | [d] => { results := [.lit (.bool true)], args := [d] }
  | _ => none }
def fnExactPlayedOrderRow : OpenClaim := { program := "ytpfefbpmchigeaa", sum := "b56871f5eabde6fd69a535ed53898f41bf67d3b05d5a0be5cfd9de9254221a29", func := "loop.example/musicengine/laws.FnExactPlayedOrder", spec := "fnExactPlayedOrder", apart := false }
def FnExactPlayedOrderSaid : Prop := fnExactPlayedOrderRow.holds Try.pinned (OpenSpec.ofChange fnExactPlayedOrderSpec)

/-- ITS FALSE NEIGHBOUR: 'it returns false'. Refute it at one input. -/
def fnExactPlayedOrderWrong : ChangeSpec := { name := "fnExactPlayedOrder", fn := fun _ => fun
  | [d] => { results := [.lit (.bool false)], args := [d] }
  | _ => none }
def FnExactPlayedOrderWrongFalsely : Prop := fnExactPlayedOrderRow.holds Try.pinned (OpenSpec.ofChange fnExactPlayedOrderWrong)

/-- 'laws.FnExactUnfoldBars': WHATEVER THE INPUT: true; the input reads as it did. -/
def fnExactUnfoldBarsSpec : ChangeSpec := { name := "fnExactUnfoldBars", fn := fun _ => fun
  | [d1, d2] => { results := [.lit (.bool true)], args := [d1, d2] }
  | _ => none }
def fnExactUnfoldBarsRow : OpenClaim := { program := "ytpfefbpmchigeaa", sum := "b56871f5eabde6fd69a535ed53898f41bf67d3b05d5a0be5cfd9de9254221a29", func := "loop.example/musicengine/laws.FnExactUnfoldBars", spec := "fnExactUnfoldBars", apart := false }
def FnExactUnfoldBarsSaid : Prop := fnExactUnfoldBarsRow.holds Try.pinned (OpenSpec.ofChange fnExactUnfoldBarsSpec)

/-- ITS FALSE NEIGHBOUR: 'it returns false'. Refute it at one input. -/
def fnExactUnfoldBarsWrong : ChangeSpec := { name := "fnExactUnfoldBars", fn := fun _ => fun
  | [d1, d2] => { results := [.lit (.bool false)], args := [d1, d2] }
  | _ => none }
def FnExactUnfoldBarsWrongFalsely : Prop := fnExactUnfoldBarsRow.holds Try.pinned (OpenSpec.ofChange fnExactUnfoldBarsWrong)

/- THE SECOND FORM. 'bulk': how many values and letters a reading holds, each counted each time it is reached (what is shared counts as often as it is met; a slice's spare places count too). A statement '..UptoSaid' is the law's where the arguments, and the package variables that the reading takes, are together of bulk at most 1048576: NARROWER than '..Said'. Prove '..Said' where nothing that the law and all that it calls make is longer than what came in: it says more and counts as full. Else prove '..UptoSaid'. A law counts once. -/
mutual
def uptoBulk {H : Type} : DataW H → Nat
  | .lit (.string bytes) => bytes.length + 1
  | .lit _ => 1
  | .nil => 1
  | .ptr d => uptoBulk d + 1
  | .slice elems spare => uptoBulkAll elems + uptoBulkAll spare + 1
  | .agg parts => uptoBulkAll parts + 1
  | .iface _ d => uptoBulk d + 1
  | .map entries => uptoBulkEntries entries + 1
  | .held _ => 1
def uptoBulkAll {H : Type} : List (DataW H) → Nat
  | [] => 0
  | d :: r => uptoBulk d + uptoBulkAll r
def uptoBulkEntries {H : Type} : List (Lit × DataW H) → Nat
  | [] => 0
  | x :: r => uptoBulkEntry x + uptoBulkEntries r
def uptoBulkEntry {H : Type} : Lit × DataW H → Nat
  | (.string bytes, d) => bytes.length + uptoBulk d + 1
  | (_, d) => uptoBulk d + 1
 end
def uptoSmall : (H : Type) → List (DataW H) → Bool := fun _ ds => decide (uptoBulkAll ds ≤ 1048576)
def OpenSpec.upto (s : _root_.Go.ChangeSpec) : _root_.Go.OpenSpec := { _root_.Go.OpenSpec.ofChange s with cond := some uptoSmall }

/-- 'laws.FnExactSectionValid', WHERE WHAT IT READS IS OF BULK AT MOST 1048576: true; the input reads as it did. -/
def fnExactSectionValidUptoRow : OpenClaim := { program := "ytpfefbpmchigeaa", sum := "b56871f5eabde6fd69a535ed53898f41bf67d3b05d5a0be5cfd9de9254221a29", func := "loop.example/musicengine/laws.FnExactSectionValid", spec := "fnExactSectionValid", apart := false, narrowed := true }
def FnExactSectionValidUptoSaid : Prop := fnExactSectionValidUptoRow.holds Try.pinned (OpenSpec.upto fnExactSectionValidSpec)

/-- 'laws.FnExactSectionsValid', WHERE WHAT IT READS IS OF BULK AT MOST 1048576: true; the input reads as it did. -/
def fnExactSectionsValidUptoRow : OpenClaim := { program := "ytpfefbpmchigeaa", sum := "b56871f5eabde6fd69a535ed53898f41bf67d3b05d5a0be5cfd9de9254221a29", func := "loop.example/musicengine/laws.FnExactSectionsValid", spec := "fnExactSectionsValid", apart := false, narrowed := true }
def FnExactSectionsValidUptoSaid : Prop := fnExactSectionsValidUptoRow.holds Try.pinned (OpenSpec.upto fnExactSectionsValidSpec)

/-- 'laws.FnExactWrittenBars', WHERE WHAT IT READS IS OF BULK AT MOST 1048576: true; the input reads as it did. -/
def fnExactWrittenBarsUptoRow : OpenClaim := { program := "ytpfefbpmchigeaa", sum := "b56871f5eabde6fd69a535ed53898f41bf67d3b05d5a0be5cfd9de9254221a29", func := "loop.example/musicengine/laws.FnExactWrittenBars", spec := "fnExactWrittenBars", apart := false, narrowed := true }
def FnExactWrittenBarsUptoSaid : Prop := fnExactWrittenBarsUptoRow.holds Try.pinned (OpenSpec.upto fnExactWrittenBarsSpec)

/-- 'laws.FnExactPlayedOrder', WHERE WHAT IT READS IS OF BULK AT MOST 1048576: true; the input reads as it did. -/
def fnExactPlayedOrderUptoRow : OpenClaim := { program := "ytpfefbpmchigeaa", sum := "b56871f5eabde6fd69a535ed53898f41bf67d3b05d5a0be5cfd9de9254221a29", func := "loop.example/musicengine/laws.FnExactPlayedOrder", spec := "fnExactPlayedOrder", apart := false, narrowed := true }
def FnExactPlayedOrderUptoSaid : Prop := fnExactPlayedOrderUptoRow.holds Try.pinned (OpenSpec.upto fnExactPlayedOrderSpec)

/-- 'laws.FnExactUnfoldBars', WHERE WHAT IT READS IS OF BULK AT MOST 1048576: true; the input reads as it did. -/
def fnExactUnfoldBarsUptoRow : OpenClaim := { program := "ytpfefbpmchigeaa", sum := "b56871f5eabde6fd69a535ed53898f41bf67d3b05d5a0be5cfd9de9254221a29", func := "loop.example/musicengine/laws.FnExactUnfoldBars", spec := "fnExactUnfoldBars", apart := false, narrowed := true }
def FnExactUnfoldBarsUptoSaid : Prop := fnExactUnfoldBarsUptoRow.holds Try.pinned (OpenSpec.upto fnExactUnfoldBarsSpec)

end Rows
end Go.Proofs.Ytpfefbpmchigeaa
