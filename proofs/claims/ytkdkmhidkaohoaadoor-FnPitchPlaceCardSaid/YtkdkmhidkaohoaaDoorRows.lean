/-
  NARROWER THAN 'FOR EVERY INPUT', by the rows' own cells (each row's printed sentence says how): FnPitchValid: laid · FnPitchPlace: laid · FnPitchText: laid · FnReadPitch: laid.
  DERIVED. THE GIVEN ROWS OF THIS SEAT. 4 by the template 'for every input the law returns true; each argument reads behind the call as it read before'; 0 by the template 'total and deterministic' (their statements: YtkdkmhidkaohoaaDoorTotals.lean).
  GIVEN WITH THE SEED: the statements are not yours to turn. If you find one false, say at which input.
  Laid BY PROGRAM, IN A SANDBOX (cutbox-rows.mjs): the forced cells as the released guide's own fill.sh prints them over the translation b34efacd9f88b19f… (all of the seat's roots in one cut). By AI agents, Wed Nov 11 2026. No macro, syntax, notation, axiom, sorry.
-/
import Derived.Test.YtkdkmhidkaohoaaDoorChecked
import GoSem.Claim
import GoSem.ClaimJoined
import GoSem.ClaimMapViews
import Derived.JoinedTies
import Derived.KernelRfl
namespace Go.Proofs.YtkdkmhidkaohoaaDoor
/- THE CELL 'sum', in the pinned program and in every row, IS THE sha256 OF THE DUMP (.gsa) THAT YtkdkmhidkaohoaaDoorProg.lean LOADS. Nothing in Lean hashes anything: it is a label: what it is worth is what the hold of that sum in a sandbox is worth. -/
noncomputable def Tryd.pinned : Pinned := { name := "ytkdkmhidkaohoaadoor", sum := "b34efacd9f88b19f836f4b69e29f61da6509cdf32a58f5536c5d4f8967e0c8ef", checked := Tryd.checked }
namespace Rows
def none {H : Type} : Left H := { results := [], args := [] }

/- WHAT THE LISTED PACKAGE-LEVEL VARIABLES READ AS WHEN THE CALL BEGINS. Each datum BY PROGRAM (the guide's laid-datum.mjs) off the statement by which the dump's own 'gosem.cut.vars' lays the variable. In a bare row this is a premise. The card (YtkdkmhidkaohoaaDoorCards.lean) ties it to the program's text. -/
def laid_loop_example_musicengine_impl_stepHalves {H : Type} : DataW H := .agg [.lit (.int .i64 0), .lit (.int .i64 2), .lit (.int .i64 4), .lit (.int .i64 5), .lit (.int .i64 7), .lit (.int .i64 9), .lit (.int .i64 11)]
def laid_math_bits_deBruijn32tab {H : Type} : DataW H := .agg [.lit (.int .u8 0), .lit (.int .u8 1), .lit (.int .u8 28), .lit (.int .u8 2), .lit (.int .u8 29), .lit (.int .u8 14), .lit (.int .u8 24), .lit (.int .u8 3), .lit (.int .u8 30), .lit (.int .u8 22), .lit (.int .u8 20), .lit (.int .u8 15), .lit (.int .u8 25), .lit (.int .u8 17), .lit (.int .u8 4), .lit (.int .u8 8), .lit (.int .u8 31), .lit (.int .u8 27), .lit (.int .u8 13), .lit (.int .u8 23), .lit (.int .u8 21), .lit (.int .u8 19), .lit (.int .u8 16), .lit (.int .u8 7), .lit (.int .u8 26), .lit (.int .u8 12), .lit (.int .u8 18), .lit (.int .u8 6), .lit (.int .u8 11), .lit (.int .u8 5), .lit (.int .u8 10), .lit (.int .u8 9)]
def laid_math_bits_deBruijn64tab {H : Type} : DataW H := .agg [.lit (.int .u8 0), .lit (.int .u8 1), .lit (.int .u8 56), .lit (.int .u8 2), .lit (.int .u8 57), .lit (.int .u8 49), .lit (.int .u8 28), .lit (.int .u8 3), .lit (.int .u8 61), .lit (.int .u8 58), .lit (.int .u8 42), .lit (.int .u8 50), .lit (.int .u8 38), .lit (.int .u8 29), .lit (.int .u8 17), .lit (.int .u8 4), .lit (.int .u8 62), .lit (.int .u8 47), .lit (.int .u8 59), .lit (.int .u8 36), .lit (.int .u8 45), .lit (.int .u8 43), .lit (.int .u8 51), .lit (.int .u8 22), .lit (.int .u8 53), .lit (.int .u8 39), .lit (.int .u8 33), .lit (.int .u8 30), .lit (.int .u8 24), .lit (.int .u8 18), .lit (.int .u8 12), .lit (.int .u8 5), .lit (.int .u8 63), .lit (.int .u8 55), .lit (.int .u8 48), .lit (.int .u8 27), .lit (.int .u8 60), .lit (.int .u8 41), .lit (.int .u8 37), .lit (.int .u8 16), .lit (.int .u8 46), .lit (.int .u8 35), .lit (.int .u8 44), .lit (.int .u8 21), .lit (.int .u8 52), .lit (.int .u8 32), .lit (.int .u8 23), .lit (.int .u8 11), .lit (.int .u8 54), .lit (.int .u8 26), .lit (.int .u8 40), .lit (.int .u8 15), .lit (.int .u8 34), .lit (.int .u8 20), .lit (.int .u8 31), .lit (.int .u8 10), .lit (.int .u8 25), .lit (.int .u8 14), .lit (.int .u8 19), .lit (.int .u8 9), .lit (.int .u8 13), .lit (.int .u8 8), .lit (.int .u8 7), .lit (.int .u8 6)]
def laid_internal_strconv_uint64pow10 {H : Type} : DataW H := .agg [.lit (.int .u64 1), .lit (.int .u64 10), .lit (.int .u64 100), .lit (.int .u64 1000), .lit (.int .u64 10000), .lit (.int .u64 100000), .lit (.int .u64 1000000), .lit (.int .u64 10000000), .lit (.int .u64 100000000), .lit (.int .u64 1000000000), .lit (.int .u64 10000000000), .lit (.int .u64 100000000000), .lit (.int .u64 1000000000000), .lit (.int .u64 10000000000000), .lit (.int .u64 100000000000000), .lit (.int .u64 1000000000000000), .lit (.int .u64 10000000000000000), .lit (.int .u64 100000000000000000), .lit (.int .u64 1000000000000000000), .lit (.int .u64 10000000000000000000)]

/-- 'laws.FnPitchValid': WHATEVER THE INPUT: true; the input reads as it did. -/
def fnPitchValidSpec : ChangeSpec := { name := "fnPitchValid", vars := ["loop.example/musicengine/impl.stepHalves"], fn := fun _ => fun
  | [d, g1] => { results := [.lit (.bool true)], args := [d], vars := [g1] }
  | _ => none }
def fnPitchValidRow : OpenClaim := { program := "ytkdkmhidkaohoaadoor", sum := "b34efacd9f88b19f836f4b69e29f61da6509cdf32a58f5536c5d4f8967e0c8ef", func := "loop.example/musicengine/laws.FnPitchValid", spec := "fnPitchValid", named := ["loop.example/musicengine/impl.stepHalves"], apart := false, laid := [("loop.example/musicengine/impl.stepHalves", laid_loop_example_musicengine_impl_stepHalves)] }
def FnPitchValidSaid : Prop := fnPitchValidRow.holds Tryd.pinned (OpenSpec.ofChange fnPitchValidSpec)

/-- ITS FALSE NEIGHBOUR: 'it returns false'. Refute it at one input. -/
def fnPitchValidWrong : ChangeSpec := { name := "fnPitchValid", vars := ["loop.example/musicengine/impl.stepHalves"], fn := fun _ => fun
  | [d, g1] => { results := [.lit (.bool false)], args := [d], vars := [g1] }
  | _ => none }
def FnPitchValidWrongFalsely : Prop := fnPitchValidRow.holds Tryd.pinned (OpenSpec.ofChange fnPitchValidWrong)

/-- 'laws.FnPitchPlace': WHATEVER THE INPUT: true; the input reads as it did. -/
def fnPitchPlaceSpec : ChangeSpec := { name := "fnPitchPlace", vars := ["loop.example/musicengine/impl.stepHalves"], fn := fun _ => fun
  | [d, g1] => { results := [.lit (.bool true)], args := [d], vars := [g1] }
  | _ => none }
def fnPitchPlaceRow : OpenClaim := { program := "ytkdkmhidkaohoaadoor", sum := "b34efacd9f88b19f836f4b69e29f61da6509cdf32a58f5536c5d4f8967e0c8ef", func := "loop.example/musicengine/laws.FnPitchPlace", spec := "fnPitchPlace", named := ["loop.example/musicengine/impl.stepHalves"], apart := false, laid := [("loop.example/musicengine/impl.stepHalves", laid_loop_example_musicengine_impl_stepHalves)] }
def FnPitchPlaceSaid : Prop := fnPitchPlaceRow.holds Tryd.pinned (OpenSpec.ofChange fnPitchPlaceSpec)

/-- ITS FALSE NEIGHBOUR: 'it returns false'. Refute it at one input. -/
def fnPitchPlaceWrong : ChangeSpec := { name := "fnPitchPlace", vars := ["loop.example/musicengine/impl.stepHalves"], fn := fun _ => fun
  | [d, g1] => { results := [.lit (.bool false)], args := [d], vars := [g1] }
  | _ => none }
def FnPitchPlaceWrongFalsely : Prop := fnPitchPlaceRow.holds Tryd.pinned (OpenSpec.ofChange fnPitchPlaceWrong)

/-- 'laws.FnPitchText': WHATEVER THE INPUT: true; the input reads as it did. -/
def fnPitchTextSpec : ChangeSpec := { name := "fnPitchText", vars := ["loop.example/musicengine/impl.stepHalves"], fn := fun _ => fun
  | [d, g1] => { results := [.lit (.bool true)], args := [d], vars := [g1] }
  | _ => none }
def fnPitchTextRow : OpenClaim := { program := "ytkdkmhidkaohoaadoor", sum := "b34efacd9f88b19f836f4b69e29f61da6509cdf32a58f5536c5d4f8967e0c8ef", func := "loop.example/musicengine/laws.FnPitchText", spec := "fnPitchText", inPlace := ["internal/abi.NoEscape", "internal/bytealg.MakeNoZero", "internal/bytealg.IndexByteString"], named := ["internal/strconv.uint64pow10", "math/bits.deBruijn32tab", "math/bits.deBruijn64tab", "loop.example/musicengine/impl.stepHalves"], apart := false, laid := [("math/bits.deBruijn32tab", laid_math_bits_deBruijn32tab), ("math/bits.deBruijn64tab", laid_math_bits_deBruijn64tab), ("internal/strconv.uint64pow10", laid_internal_strconv_uint64pow10), ("loop.example/musicengine/impl.stepHalves", laid_loop_example_musicengine_impl_stepHalves)] }
def FnPitchTextSaid : Prop := fnPitchTextRow.holds Tryd.pinned (OpenSpec.ofChange fnPitchTextSpec)

/-- ITS FALSE NEIGHBOUR: 'it returns false'. Refute it at one input. -/
def fnPitchTextWrong : ChangeSpec := { name := "fnPitchText", vars := ["loop.example/musicengine/impl.stepHalves"], fn := fun _ => fun
  | [d, g1] => { results := [.lit (.bool false)], args := [d], vars := [g1] }
  | _ => none }
def FnPitchTextWrongFalsely : Prop := fnPitchTextRow.holds Tryd.pinned (OpenSpec.ofChange fnPitchTextWrong)

/-- 'laws.FnReadPitch': WHATEVER THE INPUT: true; the input reads as it did. -/
def fnReadPitchSpec : ChangeSpec := { name := "fnReadPitch", vars := ["loop.example/musicengine/impl.stepHalves"], fn := fun _ => fun
  | [d, g1] => { results := [.lit (.bool true)], args := [d], vars := [g1] }
  | _ => none }
def fnReadPitchRow : OpenClaim := { program := "ytkdkmhidkaohoaadoor", sum := "b34efacd9f88b19f836f4b69e29f61da6509cdf32a58f5536c5d4f8967e0c8ef", func := "loop.example/musicengine/laws.FnReadPitch", spec := "fnReadPitch", inPlace := ["internal/abi.NoEscape", "internal/bytealg.MakeNoZero", "internal/bytealg.IndexByteString"], named := ["loop.example/musicengine/impl.stepHalves", "internal/strconv.uint64pow10", "math/bits.deBruijn32tab", "math/bits.deBruijn64tab"], apart := false, laid := [("math/bits.deBruijn32tab", laid_math_bits_deBruijn32tab), ("math/bits.deBruijn64tab", laid_math_bits_deBruijn64tab), ("internal/strconv.uint64pow10", laid_internal_strconv_uint64pow10), ("loop.example/musicengine/impl.stepHalves", laid_loop_example_musicengine_impl_stepHalves)] }
def FnReadPitchSaid : Prop := fnReadPitchRow.holds Tryd.pinned (OpenSpec.ofChange fnReadPitchSpec)

/-- ITS FALSE NEIGHBOUR: 'it returns false'. Refute it at one input. -/
def fnReadPitchWrong : ChangeSpec := { name := "fnReadPitch", vars := ["loop.example/musicengine/impl.stepHalves"], fn := fun _ => fun
  | [d, g1] => { results := [.lit (.bool false)], args := [d], vars := [g1] }
  | _ => none }
def FnReadPitchWrongFalsely : Prop := fnReadPitchRow.holds Tryd.pinned (OpenSpec.ofChange fnReadPitchWrong)

/- THE SECOND FORM. 'bulk': how many values and letters a reading holds, each counted each time it is reached (what is shared counts as often as it is met; a slice's spare places count too). A statement '..UptoSaid' is the law's where the arguments, and the package variables that the reading takes, are together of bulk at most 1048576: NARROWER than '..Said'. Prove '..Said' where nothing that the law and all that it calls make is longer than what came in: it says more and counts as full. Else prove '..UptoSaid'. A law counts once. -/
mutual
def uptoBulk {H : Type} : DataW H → Nat
  | .lit (.string bytes) => bytes.length + 1
  | .lit _ => 1
  | .nil => 1
  | .ptr d => uptoBulk d + 1
  | .slice elems spare => uptoBulkAll elems + uptoBulkAll spare + 1
  | .agg parts => uptoBulkAll parts + 1
  | .iface _ d => uptoBulk d + 1
  | .map entries => uptoBulkEntries entries + 1
  | .held _ => 1
def uptoBulkAll {H : Type} : List (DataW H) → Nat
  | [] => 0
  | d :: r => uptoBulk d + uptoBulkAll r
def uptoBulkEntries {H : Type} : List (Lit × DataW H) → Nat
  | [] => 0
  | x :: r => uptoBulkEntry x + uptoBulkEntries r
def uptoBulkEntry {H : Type} : Lit × DataW H → Nat
  | (.string bytes, d) => bytes.length + uptoBulk d + 1
  | (_, d) => uptoBulk d + 1
 end
def uptoSmall : (H : Type) → List (DataW H) → Bool := fun _ ds => decide (uptoBulkAll ds ≤ 1048576)
def OpenSpec.upto (s : _root_.Go.ChangeSpec) : _root_.Go.OpenSpec := { _root_.Go.OpenSpec.ofChange s with cond := some uptoSmall }

/-- 'laws.FnPitchValid', WHERE WHAT IT READS IS OF BULK AT MOST 1048576: true; the input reads as it did. -/
def fnPitchValidUptoRow : OpenClaim := { program := "ytkdkmhidkaohoaadoor", sum := "b34efacd9f88b19f836f4b69e29f61da6509cdf32a58f5536c5d4f8967e0c8ef", func := "loop.example/musicengine/laws.FnPitchValid", spec := "fnPitchValid", named := ["loop.example/musicengine/impl.stepHalves"], apart := false, laid := [("loop.example/musicengine/impl.stepHalves", laid_loop_example_musicengine_impl_stepHalves)], narrowed := true }
def FnPitchValidUptoSaid : Prop := fnPitchValidUptoRow.holds Tryd.pinned (OpenSpec.upto fnPitchValidSpec)

/-- 'laws.FnPitchPlace', WHERE WHAT IT READS IS OF BULK AT MOST 1048576: true; the input reads as it did. -/
def fnPitchPlaceUptoRow : OpenClaim := { program := "ytkdkmhidkaohoaadoor", sum := "b34efacd9f88b19f836f4b69e29f61da6509cdf32a58f5536c5d4f8967e0c8ef", func := "loop.example/musicengine/laws.FnPitchPlace", spec := "fnPitchPlace", named := ["loop.example/musicengine/impl.stepHalves"], apart := false, laid := [("loop.example/musicengine/impl.stepHalves", laid_loop_example_musicengine_impl_stepHalves)], narrowed := true }
def FnPitchPlaceUptoSaid : Prop := fnPitchPlaceUptoRow.holds Tryd.pinned (OpenSpec.upto fnPitchPlaceSpec)

/-- 'laws.FnPitchText', WHERE WHAT IT READS IS OF BULK AT MOST 1048576: true; the input reads as it did. -/
def fnPitchTextUptoRow : OpenClaim := { program := "ytkdkmhidkaohoaadoor", sum := "b34efacd9f88b19f836f4b69e29f61da6509cdf32a58f5536c5d4f8967e0c8ef", func := "loop.example/musicengine/laws.FnPitchText", spec := "fnPitchText", inPlace := ["internal/abi.NoEscape", "internal/bytealg.MakeNoZero", "internal/bytealg.IndexByteString"], named := ["internal/strconv.uint64pow10", "math/bits.deBruijn32tab", "math/bits.deBruijn64tab", "loop.example/musicengine/impl.stepHalves"], apart := false, laid := [("math/bits.deBruijn32tab", laid_math_bits_deBruijn32tab), ("math/bits.deBruijn64tab", laid_math_bits_deBruijn64tab), ("internal/strconv.uint64pow10", laid_internal_strconv_uint64pow10), ("loop.example/musicengine/impl.stepHalves", laid_loop_example_musicengine_impl_stepHalves)], narrowed := true }
def FnPitchTextUptoSaid : Prop := fnPitchTextUptoRow.holds Tryd.pinned (OpenSpec.upto fnPitchTextSpec)

/-- 'laws.FnReadPitch', WHERE WHAT IT READS IS OF BULK AT MOST 1048576: true; the input reads as it did. -/
def fnReadPitchUptoRow : OpenClaim := { program := "ytkdkmhidkaohoaadoor", sum := "b34efacd9f88b19f836f4b69e29f61da6509cdf32a58f5536c5d4f8967e0c8ef", func := "loop.example/musicengine/laws.FnReadPitch", spec := "fnReadPitch", inPlace := ["internal/abi.NoEscape", "internal/bytealg.MakeNoZero", "internal/bytealg.IndexByteString"], named := ["loop.example/musicengine/impl.stepHalves", "internal/strconv.uint64pow10", "math/bits.deBruijn32tab", "math/bits.deBruijn64tab"], apart := false, laid := [("math/bits.deBruijn32tab", laid_math_bits_deBruijn32tab), ("math/bits.deBruijn64tab", laid_math_bits_deBruijn64tab), ("internal/strconv.uint64pow10", laid_internal_strconv_uint64pow10), ("loop.example/musicengine/impl.stepHalves", laid_loop_example_musicengine_impl_stepHalves)], narrowed := true }
def FnReadPitchUptoSaid : Prop := fnReadPitchUptoRow.holds Tryd.pinned (OpenSpec.upto fnReadPitchSpec)

end Rows
end Go.Proofs.YtkdkmhidkaohoaaDoor
