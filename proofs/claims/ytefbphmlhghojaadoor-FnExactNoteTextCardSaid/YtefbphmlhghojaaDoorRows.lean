/-
  NARROWER THAN 'FOR EVERY INPUT', by the rows' own cells (each row's printed sentence says how): FnNoteText: laid · FnReadNote: laid · FnVoiceText: laid · FnReadVoice: laid · FnExactNoteText: laid · FnExactVoiceText: laid.
  DERIVED. THE GIVEN ROWS OF THIS SEAT. 6 by the template 'for every input the law returns true; each argument reads behind the call as it read before'; 0 by the template 'total and deterministic' (their statements: YtefbphmlhghojaaDoorTotals.lean).
  GIVEN WITH THE SEED: the statements are not yours to turn. If you find one false, say at which input.
  Laid BY PROGRAM, IN A SANDBOX (cutbox-rows.mjs): the forced cells as the released guide's own fill.sh prints them over the translation 6796ada438eb889f… (all of the seat's roots in one cut). By AI agents, Wed Nov 11 2026. No macro, syntax, notation, axiom, sorry.
-/
import Derived.Test.YtefbphmlhghojaaDoorChecked
import GoSem.Claim
import GoSem.ClaimJoined
import GoSem.ClaimMapViews
import Derived.JoinedTies
import Derived.KernelRfl
namespace Go.Proofs.YtefbphmlhghojaaDoor
/- THE CELL 'sum', in the pinned program and in every row, IS THE sha256 OF THE DUMP (.gsa) THAT YtefbphmlhghojaaDoorProg.lean LOADS. Nothing in Lean hashes anything: it is a label: what it is worth is what the hold of that sum in a sandbox is worth. -/
noncomputable def Tryd.pinned : Pinned := { name := "ytefbphmlhghojaadoor", sum := "6796ada438eb889f6c12555db8b0911f1f4c3ebe30cf03309d158bee3bbe4e91", checked := Tryd.checked }
namespace Rows
def none {H : Type} : Left H := { results := [], args := [] }

/- WHAT THE LISTED PACKAGE-LEVEL VARIABLES READ AS WHEN THE CALL BEGINS. Each datum BY PROGRAM (the guide's laid-datum.mjs) off the statement by which the dump's own 'gosem.cut.vars' lays the variable. In a bare row this is a premise. The card (YtefbphmlhghojaaDoorCards.lean) ties it to the program's text. -/
def laid_math_bits_deBruijn32tab {H : Type} : DataW H := .agg [.lit (.int .u8 0), .lit (.int .u8 1), .lit (.int .u8 28), .lit (.int .u8 2), .lit (.int .u8 29), .lit (.int .u8 14), .lit (.int .u8 24), .lit (.int .u8 3), .lit (.int .u8 30), .lit (.int .u8 22), .lit (.int .u8 20), .lit (.int .u8 15), .lit (.int .u8 25), .lit (.int .u8 17), .lit (.int .u8 4), .lit (.int .u8 8), .lit (.int .u8 31), .lit (.int .u8 27), .lit (.int .u8 13), .lit (.int .u8 23), .lit (.int .u8 21), .lit (.int .u8 19), .lit (.int .u8 16), .lit (.int .u8 7), .lit (.int .u8 26), .lit (.int .u8 12), .lit (.int .u8 18), .lit (.int .u8 6), .lit (.int .u8 11), .lit (.int .u8 5), .lit (.int .u8 10), .lit (.int .u8 9)]
def laid_math_bits_deBruijn64tab {H : Type} : DataW H := .agg [.lit (.int .u8 0), .lit (.int .u8 1), .lit (.int .u8 56), .lit (.int .u8 2), .lit (.int .u8 57), .lit (.int .u8 49), .lit (.int .u8 28), .lit (.int .u8 3), .lit (.int .u8 61), .lit (.int .u8 58), .lit (.int .u8 42), .lit (.int .u8 50), .lit (.int .u8 38), .lit (.int .u8 29), .lit (.int .u8 17), .lit (.int .u8 4), .lit (.int .u8 62), .lit (.int .u8 47), .lit (.int .u8 59), .lit (.int .u8 36), .lit (.int .u8 45), .lit (.int .u8 43), .lit (.int .u8 51), .lit (.int .u8 22), .lit (.int .u8 53), .lit (.int .u8 39), .lit (.int .u8 33), .lit (.int .u8 30), .lit (.int .u8 24), .lit (.int .u8 18), .lit (.int .u8 12), .lit (.int .u8 5), .lit (.int .u8 63), .lit (.int .u8 55), .lit (.int .u8 48), .lit (.int .u8 27), .lit (.int .u8 60), .lit (.int .u8 41), .lit (.int .u8 37), .lit (.int .u8 16), .lit (.int .u8 46), .lit (.int .u8 35), .lit (.int .u8 44), .lit (.int .u8 21), .lit (.int .u8 52), .lit (.int .u8 32), .lit (.int .u8 23), .lit (.int .u8 11), .lit (.int .u8 54), .lit (.int .u8 26), .lit (.int .u8 40), .lit (.int .u8 15), .lit (.int .u8 34), .lit (.int .u8 20), .lit (.int .u8 31), .lit (.int .u8 10), .lit (.int .u8 25), .lit (.int .u8 14), .lit (.int .u8 19), .lit (.int .u8 9), .lit (.int .u8 13), .lit (.int .u8 8), .lit (.int .u8 7), .lit (.int .u8 6)]
def laid_internal_strconv_uint64pow10 {H : Type} : DataW H := .agg [.lit (.int .u64 1), .lit (.int .u64 10), .lit (.int .u64 100), .lit (.int .u64 1000), .lit (.int .u64 10000), .lit (.int .u64 100000), .lit (.int .u64 1000000), .lit (.int .u64 10000000), .lit (.int .u64 100000000), .lit (.int .u64 1000000000), .lit (.int .u64 10000000000), .lit (.int .u64 100000000000), .lit (.int .u64 1000000000000), .lit (.int .u64 10000000000000), .lit (.int .u64 100000000000000), .lit (.int .u64 1000000000000000), .lit (.int .u64 10000000000000000), .lit (.int .u64 100000000000000000), .lit (.int .u64 1000000000000000000), .lit (.int .u64 10000000000000000000)]
def laid_loop_example_musicengine_impl_stepHalves {H : Type} : DataW H := .agg [.lit (.int .i64 0), .lit (.int .i64 2), .lit (.int .i64 4), .lit (.int .i64 5), .lit (.int .i64 7), .lit (.int .i64 9), .lit (.int .i64 11)]

/-- 'laws.FnNoteText': WHATEVER THE INPUT: true; the input reads as it did. -/
def fnNoteTextSpec : ChangeSpec := { name := "fnNoteText", vars := ["loop.example/musicengine/impl.stepHalves"], fn := fun _ => fun
  | [d, g1] => { results := [.lit (.bool true)], args := [d], vars := [g1] }
  | _ => none }
def fnNoteTextRow : OpenClaim := { program := "ytefbphmlhghojaadoor", sum := "6796ada438eb889f6c12555db8b0911f1f4c3ebe30cf03309d158bee3bbe4e91", func := "loop.example/musicengine/laws.FnNoteText", spec := "fnNoteText", inPlace := ["internal/abi.NoEscape", "internal/bytealg.MakeNoZero", "internal/bytealg.IndexByteString", "internal/bytealg.IndexString"], named := ["internal/strconv.uint64pow10", "math/bits.deBruijn32tab", "math/bits.deBruijn64tab", "loop.example/musicengine/impl.stepHalves", "internal/bytealg.MaxLen"], apart := false, laid := [("math/bits.deBruijn32tab", laid_math_bits_deBruijn32tab), ("math/bits.deBruijn64tab", laid_math_bits_deBruijn64tab), ("internal/strconv.uint64pow10", laid_internal_strconv_uint64pow10), ("loop.example/musicengine/impl.stepHalves", laid_loop_example_musicengine_impl_stepHalves)] }
def FnNoteTextSaid : Prop := fnNoteTextRow.holds Tryd.pinned (OpenSpec.ofChange fnNoteTextSpec)

/-- ITS FALSE NEIGHBOUR: 'it returns false'. Refute it at one input. -/
def fnNoteTextWrong : ChangeSpec := { name := "fnNoteText", vars := ["loop.example/musicengine/impl.stepHalves"], fn := fun _ => fun
  | [d, g1] => { results := [.lit (.bool false)], args := [d], vars := [g1] }
  | _ => none }
def FnNoteTextWrongFalsely : Prop := fnNoteTextRow.holds Tryd.pinned (OpenSpec.ofChange fnNoteTextWrong)

/-- 'laws.FnReadNote': WHATEVER THE INPUT: true; the input reads as it did. -/
def fnReadNoteSpec : ChangeSpec := { name := "fnReadNote", vars := ["loop.example/musicengine/impl.stepHalves"], fn := fun _ => fun
  | [d, g1] => { results := [.lit (.bool true)], args := [d], vars := [g1] }
  | _ => none }
def fnReadNoteRow : OpenClaim := { program := "ytefbphmlhghojaadoor", sum := "6796ada438eb889f6c12555db8b0911f1f4c3ebe30cf03309d158bee3bbe4e91", func := "loop.example/musicengine/laws.FnReadNote", spec := "fnReadNote", inPlace := ["internal/bytealg.IndexByteString", "internal/bytealg.IndexString", "internal/abi.NoEscape", "internal/bytealg.MakeNoZero"], named := ["internal/bytealg.MaxLen", "loop.example/musicengine/impl.stepHalves", "internal/strconv.uint64pow10", "math/bits.deBruijn32tab", "math/bits.deBruijn64tab"], apart := false, laid := [("math/bits.deBruijn32tab", laid_math_bits_deBruijn32tab), ("math/bits.deBruijn64tab", laid_math_bits_deBruijn64tab), ("internal/strconv.uint64pow10", laid_internal_strconv_uint64pow10), ("loop.example/musicengine/impl.stepHalves", laid_loop_example_musicengine_impl_stepHalves)] }
def FnReadNoteSaid : Prop := fnReadNoteRow.holds Tryd.pinned (OpenSpec.ofChange fnReadNoteSpec)

/-- ITS FALSE NEIGHBOUR: 'it returns false'. Refute it at one input. -/
def fnReadNoteWrong : ChangeSpec := { name := "fnReadNote", vars := ["loop.example/musicengine/impl.stepHalves"], fn := fun _ => fun
  | [d, g1] => { results := [.lit (.bool false)], args := [d], vars := [g1] }
  | _ => none }
def FnReadNoteWrongFalsely : Prop := fnReadNoteRow.holds Tryd.pinned (OpenSpec.ofChange fnReadNoteWrong)

/-- 'laws.FnVoiceText': WHATEVER THE INPUT: true; the input reads as it did. -/
def fnVoiceTextSpec : ChangeSpec := { name := "fnVoiceText", vars := ["loop.example/musicengine/impl.stepHalves"], fn := fun _ => fun
  | [d, g1] => { results := [.lit (.bool true)], args := [d], vars := [g1] }
  | _ => none }
def fnVoiceTextRow : OpenClaim := { program := "ytefbphmlhghojaadoor", sum := "6796ada438eb889f6c12555db8b0911f1f4c3ebe30cf03309d158bee3bbe4e91", func := "loop.example/musicengine/laws.FnVoiceText", spec := "fnVoiceText", inPlace := ["internal/abi.NoEscape", "internal/bytealg.MakeNoZero", "internal/bytealg.IndexByteString", "internal/bytealg.IndexString"], named := ["internal/strconv.uint64pow10", "math/bits.deBruijn32tab", "math/bits.deBruijn64tab", "loop.example/musicengine/impl.stepHalves", "internal/bytealg.MaxLen"], apart := false, laid := [("math/bits.deBruijn32tab", laid_math_bits_deBruijn32tab), ("math/bits.deBruijn64tab", laid_math_bits_deBruijn64tab), ("internal/strconv.uint64pow10", laid_internal_strconv_uint64pow10), ("loop.example/musicengine/impl.stepHalves", laid_loop_example_musicengine_impl_stepHalves)] }
def FnVoiceTextSaid : Prop := fnVoiceTextRow.holds Tryd.pinned (OpenSpec.ofChange fnVoiceTextSpec)

/-- ITS FALSE NEIGHBOUR: 'it returns false'. Refute it at one input. -/
def fnVoiceTextWrong : ChangeSpec := { name := "fnVoiceText", vars := ["loop.example/musicengine/impl.stepHalves"], fn := fun _ => fun
  | [d, g1] => { results := [.lit (.bool false)], args := [d], vars := [g1] }
  | _ => none }
def FnVoiceTextWrongFalsely : Prop := fnVoiceTextRow.holds Tryd.pinned (OpenSpec.ofChange fnVoiceTextWrong)

/-- 'laws.FnReadVoice': WHATEVER THE INPUT: true; the input reads as it did. -/
def fnReadVoiceSpec : ChangeSpec := { name := "fnReadVoice", vars := ["loop.example/musicengine/impl.stepHalves"], fn := fun _ => fun
  | [d, g1] => { results := [.lit (.bool true)], args := [d], vars := [g1] }
  | _ => none }
def fnReadVoiceRow : OpenClaim := { program := "ytefbphmlhghojaadoor", sum := "6796ada438eb889f6c12555db8b0911f1f4c3ebe30cf03309d158bee3bbe4e91", func := "loop.example/musicengine/laws.FnReadVoice", spec := "fnReadVoice", inPlace := ["internal/bytealg.IndexByteString", "internal/bytealg.IndexString", "internal/abi.NoEscape", "internal/bytealg.MakeNoZero"], named := ["internal/bytealg.MaxLen", "loop.example/musicengine/impl.stepHalves", "internal/strconv.uint64pow10", "math/bits.deBruijn32tab", "math/bits.deBruijn64tab"], apart := false, laid := [("math/bits.deBruijn32tab", laid_math_bits_deBruijn32tab), ("math/bits.deBruijn64tab", laid_math_bits_deBruijn64tab), ("internal/strconv.uint64pow10", laid_internal_strconv_uint64pow10), ("loop.example/musicengine/impl.stepHalves", laid_loop_example_musicengine_impl_stepHalves)] }
def FnReadVoiceSaid : Prop := fnReadVoiceRow.holds Tryd.pinned (OpenSpec.ofChange fnReadVoiceSpec)

/-- ITS FALSE NEIGHBOUR: 'it returns false'. Refute it at one input. -/
def fnReadVoiceWrong : ChangeSpec := { name := "fnReadVoice", vars := ["loop.example/musicengine/impl.stepHalves"], fn := fun _ => fun
  | [d, g1] => { results := [.lit (.bool false)], args := [d], vars := [g1] }
  | _ => none }
def FnReadVoiceWrongFalsely : Prop := fnReadVoiceRow.holds Tryd.pinned (OpenSpec.ofChange fnReadVoiceWrong)

/-- 'laws.FnExactNoteText': WHATEVER THE INPUT: true; the input reads as it did. -/
def fnExactNoteTextSpec : ChangeSpec := { name := "fnExactNoteText", fn := fun _ => fun
  | [d] => { results := [.lit (.bool true)], args := [d] }
  | _ => none }
def fnExactNoteTextRow : OpenClaim := { program := "ytefbphmlhghojaadoor", sum := "6796ada438eb889f6c12555db8b0911f1f4c3ebe30cf03309d158bee3bbe4e91", func := "loop.example/musicengine/laws.FnExactNoteText", spec := "fnExactNoteText", inPlace := ["internal/abi.NoEscape", "internal/bytealg.MakeNoZero"], named := ["internal/strconv.uint64pow10", "math/bits.deBruijn32tab", "math/bits.deBruijn64tab"], apart := false, laid := [("math/bits.deBruijn32tab", laid_math_bits_deBruijn32tab), ("math/bits.deBruijn64tab", laid_math_bits_deBruijn64tab), ("internal/strconv.uint64pow10", laid_internal_strconv_uint64pow10)] }
def FnExactNoteTextSaid : Prop := fnExactNoteTextRow.holds Tryd.pinned (OpenSpec.ofChange fnExactNoteTextSpec)

/-- ITS FALSE NEIGHBOUR: 'it returns false'. Refute it at one input. -/
def fnExactNoteTextWrong : ChangeSpec := { name := "fnExactNoteText", fn := fun _ => fun
  | [d] => { results := [.lit (.bool false)], args := [d] }
  | _ => none }
def FnExactNoteTextWrongFalsely : Prop := fnExactNoteTextRow.holds Tryd.pinned (OpenSpec.ofChange fnExactNoteTextWrong)

/-- 'laws.FnExactVoiceText': WHATEVER THE INPUT: true; the input reads as it did. -/
def fnExactVoiceTextSpec : ChangeSpec := { name := "fnExactVoiceText", fn := fun _ => fun
  | [d] => { results := [.lit (.bool true)], args := [d] }
  | _ => none }
def fnExactVoiceTextRow : OpenClaim := { program := "ytefbphmlhghojaadoor", sum := "6796ada438eb889f6c12555db8b0911f1f4c3ebe30cf03309d158bee3bbe4e91", func := "loop.example/musicengine/laws.FnExactVoiceText", spec := "fnExactVoiceText", inPlace := ["internal/abi.NoEscape", "internal/bytealg.MakeNoZero"], named := ["internal/strconv.uint64pow10", "math/bits.deBruijn32tab", "math/bits.deBruijn64tab"], apart := false, laid := [("math/bits.deBruijn32tab", laid_math_bits_deBruijn32tab), ("math/bits.deBruijn64tab", laid_math_bits_deBruijn64tab), ("internal/strconv.uint64pow10", laid_internal_strconv_uint64pow10)] }
def FnExactVoiceTextSaid : Prop := fnExactVoiceTextRow.holds Tryd.pinned (OpenSpec.ofChange fnExactVoiceTextSpec)

/-- ITS FALSE NEIGHBOUR: 'it returns false'. Refute it at one input. -/
def fnExactVoiceTextWrong : ChangeSpec := { name := "fnExactVoiceText", fn := fun _ => fun
  | [d] => { results := [.lit (.bool false)], args := [d] }
  | _ => none }
def FnExactVoiceTextWrongFalsely : Prop := fnExactVoiceTextRow.holds Tryd.pinned (OpenSpec.ofChange fnExactVoiceTextWrong)

/- THE SECOND FORM. 'bulk': how many values and letters a reading holds, each counted each time it is reached (what is shared counts as often as it is met; a slice's spare places count too). A statement '..UptoSaid' is the law's where the arguments, and the package variables that the reading takes, are together of bulk at most 1048576: NARROWER than '..Said'. Prove '..Said' where nothing that the law and all that it calls make is longer than what came in: it says more and counts as full. Else prove '..UptoSaid'. A law counts once. -/
mutual
def uptoBulk {H : Type} : DataW H → Nat
  | .lit (.string bytes) => bytes.length + 1
  | .lit _ => 1
  | .nil => 1
  | .ptr d => uptoBulk d + 1
  | .slice elems spare => uptoBulkAll elems + uptoBulkAll spare + 1
  | .agg parts => uptoBulkAll parts + 1
  | .iface _ d => uptoBulk d + 1
  | .map entries => uptoBulkEntries entries + 1
  | .held _ => 1
def uptoBulkAll {H : Type} : List (DataW H) → Nat
  | [] => 0
  | d :: r => uptoBulk d + uptoBulkAll r
def uptoBulkEntries {H : Type} : List (Lit × DataW H) → Nat
  | [] => 0
  | x :: r => uptoBulkEntry x + uptoBulkEntries r
def uptoBulkEntry {H : Type} : Lit × DataW H → Nat
  | (.string bytes, d) => bytes.length + uptoBulk d + 1
  | (_, d) => uptoBulk d + 1
 end
def uptoSmall : (H : Type) → List (DataW H) → Bool := fun _ ds => decide (uptoBulkAll ds ≤ 1048576)
def OpenSpec.upto (s : _root_.Go.ChangeSpec) : _root_.Go.OpenSpec := { _root_.Go.OpenSpec.ofChange s with cond := some uptoSmall }

/-- 'laws.FnNoteText', WHERE WHAT IT READS IS OF BULK AT MOST 1048576: true; the input reads as it did. -/
def fnNoteTextUptoRow : OpenClaim := { program := "ytefbphmlhghojaadoor", sum := "6796ada438eb889f6c12555db8b0911f1f4c3ebe30cf03309d158bee3bbe4e91", func := "loop.example/musicengine/laws.FnNoteText", spec := "fnNoteText", inPlace := ["internal/abi.NoEscape", "internal/bytealg.MakeNoZero", "internal/bytealg.IndexByteString", "internal/bytealg.IndexString"], named := ["internal/strconv.uint64pow10", "math/bits.deBruijn32tab", "math/bits.deBruijn64tab", "loop.example/musicengine/impl.stepHalves", "internal/bytealg.MaxLen"], apart := false, laid := [("math/bits.deBruijn32tab", laid_math_bits_deBruijn32tab), ("math/bits.deBruijn64tab", laid_math_bits_deBruijn64tab), ("internal/strconv.uint64pow10", laid_internal_strconv_uint64pow10), ("loop.example/musicengine/impl.stepHalves", laid_loop_example_musicengine_impl_stepHalves)], narrowed := true }
def FnNoteTextUptoSaid : Prop := fnNoteTextUptoRow.holds Tryd.pinned (OpenSpec.upto fnNoteTextSpec)

/-- 'laws.FnReadNote', WHERE WHAT IT READS IS OF BULK AT MOST 1048576: true; the input reads as it did. -/
def fnReadNoteUptoRow : OpenClaim := { program := "ytefbphmlhghojaadoor", sum := "6796ada438eb889f6c12555db8b0911f1f4c3ebe30cf03309d158bee3bbe4e91", func := "loop.example/musicengine/laws.FnReadNote", spec := "fnReadNote", inPlace := ["internal/bytealg.IndexByteString", "internal/bytealg.IndexString", "internal/abi.NoEscape", "internal/bytealg.MakeNoZero"], named := ["internal/bytealg.MaxLen", "loop.example/musicengine/impl.stepHalves", "internal/strconv.uint64pow10", "math/bits.deBruijn32tab", "math/bits.deBruijn64tab"], apart := false, laid := [("math/bits.deBruijn32tab", laid_math_bits_deBruijn32tab), ("math/bits.deBruijn64tab", laid_math_bits_deBruijn64tab), ("internal/strconv.uint64pow10", laid_internal_strconv_uint64pow10), ("loop.example/musicengine/impl.stepHalves", laid_loop_example_musicengine_impl_stepHalves)], narrowed := true }
def FnReadNoteUptoSaid : Prop := fnReadNoteUptoRow.holds Tryd.pinned (OpenSpec.upto fnReadNoteSpec)

/-- 'laws.FnVoiceText', WHERE WHAT IT READS IS OF BULK AT MOST 1048576: true; the input reads as it did. -/
def fnVoiceTextUptoRow : OpenClaim := { program := "ytefbphmlhghojaadoor", sum := "6796ada438eb889f6c12555db8b0911f1f4c3ebe30cf03309d158bee3bbe4e91", func := "loop.example/musicengine/laws.FnVoiceText", spec := "fnVoiceText", inPlace := ["internal/abi.NoEscape", "internal/bytealg.MakeNoZero", "internal/bytealg.IndexByteString", "internal/bytealg.IndexString"], named := ["internal/strconv.uint64pow10", "math/bits.deBruijn32tab", "math/bits.deBruijn64tab", "loop.example/musicengine/impl.stepHalves", "internal/bytealg.MaxLen"], apart := false, laid := [("math/bits.deBruijn32tab", laid_math_bits_deBruijn32tab), ("math/bits.deBruijn64tab", laid_math_bits_deBruijn64tab), ("internal/strconv.uint64pow10", laid_internal_strconv_uint64pow10), ("loop.example/musicengine/impl.stepHalves", laid_loop_example_musicengine_impl_stepHalves)], narrowed := true }
def FnVoiceTextUptoSaid : Prop := fnVoiceTextUptoRow.holds Tryd.pinned (OpenSpec.upto fnVoiceTextSpec)

/-- 'laws.FnReadVoice', WHERE WHAT IT READS IS OF BULK AT MOST 1048576: true; the input reads as it did. -/
def fnReadVoiceUptoRow : OpenClaim := { program := "ytefbphmlhghojaadoor", sum := "6796ada438eb889f6c12555db8b0911f1f4c3ebe30cf03309d158bee3bbe4e91", func := "loop.example/musicengine/laws.FnReadVoice", spec := "fnReadVoice", inPlace := ["internal/bytealg.IndexByteString", "internal/bytealg.IndexString", "internal/abi.NoEscape", "internal/bytealg.MakeNoZero"], named := ["internal/bytealg.MaxLen", "loop.example/musicengine/impl.stepHalves", "internal/strconv.uint64pow10", "math/bits.deBruijn32tab", "math/bits.deBruijn64tab"], apart := false, laid := [("math/bits.deBruijn32tab", laid_math_bits_deBruijn32tab), ("math/bits.deBruijn64tab", laid_math_bits_deBruijn64tab), ("internal/strconv.uint64pow10", laid_internal_strconv_uint64pow10), ("loop.example/musicengine/impl.stepHalves", laid_loop_example_musicengine_impl_stepHalves)], narrowed := true }
def FnReadVoiceUptoSaid : Prop := fnReadVoiceUptoRow.holds Tryd.pinned (OpenSpec.upto fnReadVoiceSpec)

/-- 'laws.FnExactNoteText', WHERE WHAT IT READS IS OF BULK AT MOST 1048576: true; the input reads as it did. -/
def fnExactNoteTextUptoRow : OpenClaim := { program := "ytefbphmlhghojaadoor", sum := "6796ada438eb889f6c12555db8b0911f1f4c3ebe30cf03309d158bee3bbe4e91", func := "loop.example/musicengine/laws.FnExactNoteText", spec := "fnExactNoteText", inPlace := ["internal/abi.NoEscape", "internal/bytealg.MakeNoZero"], named := ["internal/strconv.uint64pow10", "math/bits.deBruijn32tab", "math/bits.deBruijn64tab"], apart := false, laid := [("math/bits.deBruijn32tab", laid_math_bits_deBruijn32tab), ("math/bits.deBruijn64tab", laid_math_bits_deBruijn64tab), ("internal/strconv.uint64pow10", laid_internal_strconv_uint64pow10)], narrowed := true }
def FnExactNoteTextUptoSaid : Prop := fnExactNoteTextUptoRow.holds Tryd.pinned (OpenSpec.upto fnExactNoteTextSpec)

/-- 'laws.FnExactVoiceText', WHERE WHAT IT READS IS OF BULK AT MOST 1048576: true; the input reads as it did. -/
def fnExactVoiceTextUptoRow : OpenClaim := { program := "ytefbphmlhghojaadoor", sum := "6796ada438eb889f6c12555db8b0911f1f4c3ebe30cf03309d158bee3bbe4e91", func := "loop.example/musicengine/laws.FnExactVoiceText", spec := "fnExactVoiceText", inPlace := ["internal/abi.NoEscape", "internal/bytealg.MakeNoZero"], named := ["internal/strconv.uint64pow10", "math/bits.deBruijn32tab", "math/bits.deBruijn64tab"], apart := false, laid := [("math/bits.deBruijn32tab", laid_math_bits_deBruijn32tab), ("math/bits.deBruijn64tab", laid_math_bits_deBruijn64tab), ("internal/strconv.uint64pow10", laid_internal_strconv_uint64pow10)], narrowed := true }
def FnExactVoiceTextUptoSaid : Prop := fnExactVoiceTextUptoRow.holds Tryd.pinned (OpenSpec.upto fnExactVoiceTextSpec)

end Rows
end Go.Proofs.YtefbphmlhghojaaDoor
