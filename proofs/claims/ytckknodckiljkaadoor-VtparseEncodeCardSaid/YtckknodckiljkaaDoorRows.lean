/-
  NARROWER THAN 'FOR EVERY INPUT', by the rows' own cells (each row's printed sentence says how): VtparseFeed: laid · VtparseEncode: laid · VtparseSplit: laid · VtparseValid: laid · VtparseRoundTrip: laid · VtparseCancel: laid · VtparseControls: laid · VtparseText: laid · VtparseBroken: laid.
  DERIVED. THE GIVEN ROWS OF THIS SEAT. 9 by the template 'for every input the law returns true; each argument reads behind the call as it read before'; 0 by the template 'total and deterministic' (their statements: YtckknodckiljkaaDoorTotals.lean).
  GIVEN WITH THE SEED: the statements are not yours to turn. If you find one false, say at which input.
  Laid BY PROGRAM, IN A SANDBOX (cutbox-rows.mjs): the forced cells as the released guide's own fill.sh prints them over the translation 7a082a60e2692718… (all of the seat's roots in one cut). By AI agents, Wed Nov 11 2026. No macro, syntax, notation, axiom, sorry.
-/
import Derived.Test.YtckknodckiljkaaDoorChecked
import GoSem.PinnedTables
import GoSem.Claim
import GoSem.ClaimJoined
import GoSem.ClaimMapViews
import Derived.JoinedTies
import Derived.KernelRfl
namespace Go.Proofs.YtckknodckiljkaaDoor
/- THE CELL 'sum', in the pinned program and in every row, IS THE sha256 OF THE DUMP (.gsa) THAT YtckknodckiljkaaDoorProg.lean LOADS. Nothing in Lean hashes anything: it is a label: what it is worth is what the hold of that sum in a sandbox is worth. -/
noncomputable def Tryd.pinned : Pinned := { name := "ytckknodckiljkaadoor", sum := "7a082a60e2692718beaae2e1002576d65c76707be79d1eb01b9d0d32a624314f", checked := Tryd.checked }
namespace Rows
def none {H : Type} : Left H := { results := [], args := [] }

/- WHAT THE LISTED PACKAGE-LEVEL VARIABLES READ AS WHEN THE CALL BEGINS. Each datum BY PROGRAM (the guide's laid-datum.mjs) off the statement by which the dump's own 'gosem.cut.vars' lays the variable. In a bare row this is a premise. The card (YtckknodckiljkaaDoorCards.lean) ties it to the program's text. -/
def laid_unicode_utf8_acceptRanges {H : Type} : DataW H := .agg [.agg [.lit (.int .u8 128), .lit (.int .u8 191)], .agg [.lit (.int .u8 160), .lit (.int .u8 191)], .agg [.lit (.int .u8 128), .lit (.int .u8 159)], .agg [.lit (.int .u8 144), .lit (.int .u8 191)], .agg [.lit (.int .u8 128), .lit (.int .u8 143)], .agg [.lit (.int .u8 0), .lit (.int .u8 0)], .agg [.lit (.int .u8 0), .lit (.int .u8 0)], .agg [.lit (.int .u8 0), .lit (.int .u8 0)], .agg [.lit (.int .u8 0), .lit (.int .u8 0)], .agg [.lit (.int .u8 0), .lit (.int .u8 0)], .agg [.lit (.int .u8 0), .lit (.int .u8 0)], .agg [.lit (.int .u8 0), .lit (.int .u8 0)], .agg [.lit (.int .u8 0), .lit (.int .u8 0)], .agg [.lit (.int .u8 0), .lit (.int .u8 0)], .agg [.lit (.int .u8 0), .lit (.int .u8 0)], .agg [.lit (.int .u8 0), .lit (.int .u8 0)]]
/-- One of Go's own tables, pinned by name: the form's constant. -/
def laid_unicode_utf8_first : DataW Unit := Go.Pinned.utf8First
def laid_math_bits_deBruijn32tab {H : Type} : DataW H := .agg [.lit (.int .u8 0), .lit (.int .u8 1), .lit (.int .u8 28), .lit (.int .u8 2), .lit (.int .u8 29), .lit (.int .u8 14), .lit (.int .u8 24), .lit (.int .u8 3), .lit (.int .u8 30), .lit (.int .u8 22), .lit (.int .u8 20), .lit (.int .u8 15), .lit (.int .u8 25), .lit (.int .u8 17), .lit (.int .u8 4), .lit (.int .u8 8), .lit (.int .u8 31), .lit (.int .u8 27), .lit (.int .u8 13), .lit (.int .u8 23), .lit (.int .u8 21), .lit (.int .u8 19), .lit (.int .u8 16), .lit (.int .u8 7), .lit (.int .u8 26), .lit (.int .u8 12), .lit (.int .u8 18), .lit (.int .u8 6), .lit (.int .u8 11), .lit (.int .u8 5), .lit (.int .u8 10), .lit (.int .u8 9)]
def laid_math_bits_deBruijn64tab {H : Type} : DataW H := .agg [.lit (.int .u8 0), .lit (.int .u8 1), .lit (.int .u8 56), .lit (.int .u8 2), .lit (.int .u8 57), .lit (.int .u8 49), .lit (.int .u8 28), .lit (.int .u8 3), .lit (.int .u8 61), .lit (.int .u8 58), .lit (.int .u8 42), .lit (.int .u8 50), .lit (.int .u8 38), .lit (.int .u8 29), .lit (.int .u8 17), .lit (.int .u8 4), .lit (.int .u8 62), .lit (.int .u8 47), .lit (.int .u8 59), .lit (.int .u8 36), .lit (.int .u8 45), .lit (.int .u8 43), .lit (.int .u8 51), .lit (.int .u8 22), .lit (.int .u8 53), .lit (.int .u8 39), .lit (.int .u8 33), .lit (.int .u8 30), .lit (.int .u8 24), .lit (.int .u8 18), .lit (.int .u8 12), .lit (.int .u8 5), .lit (.int .u8 63), .lit (.int .u8 55), .lit (.int .u8 48), .lit (.int .u8 27), .lit (.int .u8 60), .lit (.int .u8 41), .lit (.int .u8 37), .lit (.int .u8 16), .lit (.int .u8 46), .lit (.int .u8 35), .lit (.int .u8 44), .lit (.int .u8 21), .lit (.int .u8 52), .lit (.int .u8 32), .lit (.int .u8 23), .lit (.int .u8 11), .lit (.int .u8 54), .lit (.int .u8 26), .lit (.int .u8 40), .lit (.int .u8 15), .lit (.int .u8 34), .lit (.int .u8 20), .lit (.int .u8 31), .lit (.int .u8 10), .lit (.int .u8 25), .lit (.int .u8 14), .lit (.int .u8 19), .lit (.int .u8 9), .lit (.int .u8 13), .lit (.int .u8 8), .lit (.int .u8 7), .lit (.int .u8 6)]
def laid_internal_strconv_uint64pow10 {H : Type} : DataW H := .agg [.lit (.int .u64 1), .lit (.int .u64 10), .lit (.int .u64 100), .lit (.int .u64 1000), .lit (.int .u64 10000), .lit (.int .u64 100000), .lit (.int .u64 1000000), .lit (.int .u64 10000000), .lit (.int .u64 100000000), .lit (.int .u64 1000000000), .lit (.int .u64 10000000000), .lit (.int .u64 100000000000), .lit (.int .u64 1000000000000), .lit (.int .u64 10000000000000), .lit (.int .u64 100000000000000), .lit (.int .u64 1000000000000000), .lit (.int .u64 10000000000000000), .lit (.int .u64 100000000000000000), .lit (.int .u64 1000000000000000000), .lit (.int .u64 10000000000000000000)]

/-- 'narratorlaw06.VtparseFeed': WHATEVER THE INPUT: true; the input reads as it did. -/
def vtparseFeedSpec : ChangeSpec := { name := "vtparseFeed", fn := fun _ => fun
  | [d1, d2] => { results := [.lit (.bool true)], args := [d1, d2] }
  | _ => none }
def vtparseFeedRow : OpenClaim := { program := "ytckknodckiljkaadoor", sum := "7a082a60e2692718beaae2e1002576d65c76707be79d1eb01b9d0d32a624314f", func := "narrator/narratorlaw06.VtparseFeed", spec := "vtparseFeed", inPlace := ["internal/bytealg.IndexByteString", "internal/bytealg.IndexString"], unfollowed := true, recurses := true, named := ["unicode/utf8.first", "unicode/utf8.acceptRanges", "internal/bytealg.MaxLen"], apart := false, laid := [("unicode/utf8.acceptRanges", laid_unicode_utf8_acceptRanges), ("unicode/utf8.first", laid_unicode_utf8_first)] }
def VtparseFeedSaid : Prop := vtparseFeedRow.holds Tryd.pinned (OpenSpec.ofChange vtparseFeedSpec)

/-- ITS FALSE NEIGHBOUR: 'it returns false'. Refute it at one input. -/
def vtparseFeedWrong : ChangeSpec := { name := "vtparseFeed", fn := fun _ => fun
  | [d1, d2] => { results := [.lit (.bool false)], args := [d1, d2] }
  | _ => none }
def VtparseFeedWrongFalsely : Prop := vtparseFeedRow.holds Tryd.pinned (OpenSpec.ofChange vtparseFeedWrong)

/-- 'narratorlaw06.VtparseEncode': WHATEVER THE INPUT: true; the input reads as it did. -/
def vtparseEncodeSpec : ChangeSpec := { name := "vtparseEncode", fn := fun _ => fun
  | [d] => { results := [.lit (.bool true)], args := [d] }
  | _ => none }
def vtparseEncodeRow : OpenClaim := { program := "ytckknodckiljkaadoor", sum := "7a082a60e2692718beaae2e1002576d65c76707be79d1eb01b9d0d32a624314f", func := "narrator/narratorlaw06.VtparseEncode", spec := "vtparseEncode", inPlace := ["internal/bytealg.IndexByteString", "internal/bytealg.IndexString"], unfollowed := true, recurses := true, named := ["unicode/utf8.first", "unicode/utf8.acceptRanges", "internal/strconv.uint64pow10", "math/bits.deBruijn32tab", "math/bits.deBruijn64tab", "internal/bytealg.MaxLen"], apart := false, laid := [("math/bits.deBruijn32tab", laid_math_bits_deBruijn32tab), ("math/bits.deBruijn64tab", laid_math_bits_deBruijn64tab), ("internal/strconv.uint64pow10", laid_internal_strconv_uint64pow10), ("unicode/utf8.acceptRanges", laid_unicode_utf8_acceptRanges), ("unicode/utf8.first", laid_unicode_utf8_first)] }
def VtparseEncodeSaid : Prop := vtparseEncodeRow.holds Tryd.pinned (OpenSpec.ofChange vtparseEncodeSpec)

/-- ITS FALSE NEIGHBOUR: 'it returns false'. Refute it at one input. -/
def vtparseEncodeWrong : ChangeSpec := { name := "vtparseEncode", fn := fun _ => fun
  | [d] => { results := [.lit (.bool false)], args := [d] }
  | _ => none }
def VtparseEncodeWrongFalsely : Prop := vtparseEncodeRow.holds Tryd.pinned (OpenSpec.ofChange vtparseEncodeWrong)

/-- 'narratorlaw06.VtparseSplit': WHATEVER THE INPUT: true; the input reads as it did. -/
def vtparseSplitSpec : ChangeSpec := { name := "vtparseSplit", fn := fun _ => fun
  | [d1, d2, d3] => { results := [.lit (.bool true)], args := [d1, d2, d3] }
  | _ => none }
def vtparseSplitRow : OpenClaim := { program := "ytckknodckiljkaadoor", sum := "7a082a60e2692718beaae2e1002576d65c76707be79d1eb01b9d0d32a624314f", func := "narrator/narratorlaw06.VtparseSplit", spec := "vtparseSplit", inPlace := ["internal/bytealg.IndexByteString", "internal/bytealg.IndexString"], unfollowed := true, recurses := true, named := ["unicode/utf8.first", "unicode/utf8.acceptRanges", "internal/bytealg.MaxLen"], apart := false, laid := [("unicode/utf8.acceptRanges", laid_unicode_utf8_acceptRanges), ("unicode/utf8.first", laid_unicode_utf8_first)] }
def VtparseSplitSaid : Prop := vtparseSplitRow.holds Tryd.pinned (OpenSpec.ofChange vtparseSplitSpec)

/-- ITS FALSE NEIGHBOUR: 'it returns false'. Refute it at one input. -/
def vtparseSplitWrong : ChangeSpec := { name := "vtparseSplit", fn := fun _ => fun
  | [d1, d2, d3] => { results := [.lit (.bool false)], args := [d1, d2, d3] }
  | _ => none }
def VtparseSplitWrongFalsely : Prop := vtparseSplitRow.holds Tryd.pinned (OpenSpec.ofChange vtparseSplitWrong)

/-- 'narratorlaw06.VtparseValid': WHATEVER THE INPUT: true; the input reads as it did. -/
def vtparseValidSpec : ChangeSpec := { name := "vtparseValid", fn := fun _ => fun
  | [d1, d2] => { results := [.lit (.bool true)], args := [d1, d2] }
  | _ => none }
def vtparseValidRow : OpenClaim := { program := "ytckknodckiljkaadoor", sum := "7a082a60e2692718beaae2e1002576d65c76707be79d1eb01b9d0d32a624314f", func := "narrator/narratorlaw06.VtparseValid", spec := "vtparseValid", inPlace := ["internal/bytealg.IndexByteString", "internal/bytealg.IndexString"], unfollowed := true, recurses := true, named := ["unicode/utf8.first", "unicode/utf8.acceptRanges", "internal/strconv.uint64pow10", "math/bits.deBruijn32tab", "math/bits.deBruijn64tab", "internal/bytealg.MaxLen"], apart := false, laid := [("math/bits.deBruijn32tab", laid_math_bits_deBruijn32tab), ("math/bits.deBruijn64tab", laid_math_bits_deBruijn64tab), ("internal/strconv.uint64pow10", laid_internal_strconv_uint64pow10), ("unicode/utf8.acceptRanges", laid_unicode_utf8_acceptRanges), ("unicode/utf8.first", laid_unicode_utf8_first)] }
def VtparseValidSaid : Prop := vtparseValidRow.holds Tryd.pinned (OpenSpec.ofChange vtparseValidSpec)

/-- ITS FALSE NEIGHBOUR: 'it returns false'. Refute it at one input. -/
def vtparseValidWrong : ChangeSpec := { name := "vtparseValid", fn := fun _ => fun
  | [d1, d2] => { results := [.lit (.bool false)], args := [d1, d2] }
  | _ => none }
def VtparseValidWrongFalsely : Prop := vtparseValidRow.holds Tryd.pinned (OpenSpec.ofChange vtparseValidWrong)

/-- 'narratorlaw06.VtparseRoundTrip': WHATEVER THE INPUT: true; the input reads as it did. -/
def vtparseRoundTripSpec : ChangeSpec := { name := "vtparseRoundTrip", fn := fun _ => fun
  | [d] => { results := [.lit (.bool true)], args := [d] }
  | _ => none }
def vtparseRoundTripRow : OpenClaim := { program := "ytckknodckiljkaadoor", sum := "7a082a60e2692718beaae2e1002576d65c76707be79d1eb01b9d0d32a624314f", func := "narrator/narratorlaw06.VtparseRoundTrip", spec := "vtparseRoundTrip", inPlace := ["internal/bytealg.IndexByteString", "internal/bytealg.IndexString"], unfollowed := true, recurses := true, named := ["unicode/utf8.first", "unicode/utf8.acceptRanges", "internal/strconv.uint64pow10", "math/bits.deBruijn32tab", "math/bits.deBruijn64tab", "internal/bytealg.MaxLen"], apart := false, laid := [("math/bits.deBruijn32tab", laid_math_bits_deBruijn32tab), ("math/bits.deBruijn64tab", laid_math_bits_deBruijn64tab), ("internal/strconv.uint64pow10", laid_internal_strconv_uint64pow10), ("unicode/utf8.acceptRanges", laid_unicode_utf8_acceptRanges), ("unicode/utf8.first", laid_unicode_utf8_first)] }
def VtparseRoundTripSaid : Prop := vtparseRoundTripRow.holds Tryd.pinned (OpenSpec.ofChange vtparseRoundTripSpec)

/-- ITS FALSE NEIGHBOUR: 'it returns false'. Refute it at one input. -/
def vtparseRoundTripWrong : ChangeSpec := { name := "vtparseRoundTrip", fn := fun _ => fun
  | [d] => { results := [.lit (.bool false)], args := [d] }
  | _ => none }
def VtparseRoundTripWrongFalsely : Prop := vtparseRoundTripRow.holds Tryd.pinned (OpenSpec.ofChange vtparseRoundTripWrong)

/-- 'narratorlaw06.VtparseCancel': WHATEVER THE INPUT: true; the input reads as it did. -/
def vtparseCancelSpec : ChangeSpec := { name := "vtparseCancel", fn := fun _ => fun
  | [d1, d2] => { results := [.lit (.bool true)], args := [d1, d2] }
  | _ => none }
def vtparseCancelRow : OpenClaim := { program := "ytckknodckiljkaadoor", sum := "7a082a60e2692718beaae2e1002576d65c76707be79d1eb01b9d0d32a624314f", func := "narrator/narratorlaw06.VtparseCancel", spec := "vtparseCancel", inPlace := ["internal/bytealg.IndexByteString", "internal/bytealg.IndexString"], unfollowed := true, recurses := true, named := ["unicode/utf8.first", "unicode/utf8.acceptRanges", "internal/bytealg.MaxLen"], apart := false, laid := [("unicode/utf8.acceptRanges", laid_unicode_utf8_acceptRanges), ("unicode/utf8.first", laid_unicode_utf8_first)] }
def VtparseCancelSaid : Prop := vtparseCancelRow.holds Tryd.pinned (OpenSpec.ofChange vtparseCancelSpec)

/-- ITS FALSE NEIGHBOUR: 'it returns false'. Refute it at one input. -/
def vtparseCancelWrong : ChangeSpec := { name := "vtparseCancel", fn := fun _ => fun
  | [d1, d2] => { results := [.lit (.bool false)], args := [d1, d2] }
  | _ => none }
def VtparseCancelWrongFalsely : Prop := vtparseCancelRow.holds Tryd.pinned (OpenSpec.ofChange vtparseCancelWrong)

/-- 'narratorlaw06.VtparseControls': WHATEVER THE INPUT: true; the input reads as it did. -/
def vtparseControlsSpec : ChangeSpec := { name := "vtparseControls", fn := fun _ => fun
  | [d1, d2, d3] => { results := [.lit (.bool true)], args := [d1, d2, d3] }
  | _ => none }
def vtparseControlsRow : OpenClaim := { program := "ytckknodckiljkaadoor", sum := "7a082a60e2692718beaae2e1002576d65c76707be79d1eb01b9d0d32a624314f", func := "narrator/narratorlaw06.VtparseControls", spec := "vtparseControls", inPlace := ["internal/bytealg.IndexByteString", "internal/bytealg.IndexString"], unfollowed := true, recurses := true, named := ["internal/strconv.uint64pow10", "math/bits.deBruijn32tab", "math/bits.deBruijn64tab", "unicode/utf8.first", "unicode/utf8.acceptRanges", "internal/bytealg.MaxLen"], apart := false, laid := [("math/bits.deBruijn32tab", laid_math_bits_deBruijn32tab), ("math/bits.deBruijn64tab", laid_math_bits_deBruijn64tab), ("internal/strconv.uint64pow10", laid_internal_strconv_uint64pow10), ("unicode/utf8.acceptRanges", laid_unicode_utf8_acceptRanges), ("unicode/utf8.first", laid_unicode_utf8_first)] }
def VtparseControlsSaid : Prop := vtparseControlsRow.holds Tryd.pinned (OpenSpec.ofChange vtparseControlsSpec)

/-- ITS FALSE NEIGHBOUR: 'it returns false'. Refute it at one input. -/
def vtparseControlsWrong : ChangeSpec := { name := "vtparseControls", fn := fun _ => fun
  | [d1, d2, d3] => { results := [.lit (.bool false)], args := [d1, d2, d3] }
  | _ => none }
def VtparseControlsWrongFalsely : Prop := vtparseControlsRow.holds Tryd.pinned (OpenSpec.ofChange vtparseControlsWrong)

/-- 'narratorlaw06.VtparseText': WHATEVER THE INPUT: true; the input reads as it did. -/
def vtparseTextSpec : ChangeSpec := { name := "vtparseText", fn := fun _ => fun
  | [d1, d2] => { results := [.lit (.bool true)], args := [d1, d2] }
  | _ => none }
def vtparseTextRow : OpenClaim := { program := "ytckknodckiljkaadoor", sum := "7a082a60e2692718beaae2e1002576d65c76707be79d1eb01b9d0d32a624314f", func := "narrator/narratorlaw06.VtparseText", spec := "vtparseText", inPlace := ["internal/bytealg.IndexByteString", "internal/bytealg.IndexString"], unfollowed := true, recurses := true, named := ["unicode/utf8.first", "unicode/utf8.acceptRanges", "internal/bytealg.MaxLen"], apart := false, laid := [("unicode/utf8.acceptRanges", laid_unicode_utf8_acceptRanges), ("unicode/utf8.first", laid_unicode_utf8_first)] }
def VtparseTextSaid : Prop := vtparseTextRow.holds Tryd.pinned (OpenSpec.ofChange vtparseTextSpec)

/-- ITS FALSE NEIGHBOUR: 'it returns false'. Refute it at one input. -/
def vtparseTextWrong : ChangeSpec := { name := "vtparseText", fn := fun _ => fun
  | [d1, d2] => { results := [.lit (.bool false)], args := [d1, d2] }
  | _ => none }
def VtparseTextWrongFalsely : Prop := vtparseTextRow.holds Tryd.pinned (OpenSpec.ofChange vtparseTextWrong)

/-- 'narratorlaw06.VtparseBroken': WHATEVER THE INPUT: true; the input reads as it did. -/
def vtparseBrokenSpec : ChangeSpec := { name := "vtparseBroken", fn := fun _ => fun
  | [d1, d2, d3] => { results := [.lit (.bool true)], args := [d1, d2, d3] }
  | _ => none }
def vtparseBrokenRow : OpenClaim := { program := "ytckknodckiljkaadoor", sum := "7a082a60e2692718beaae2e1002576d65c76707be79d1eb01b9d0d32a624314f", func := "narrator/narratorlaw06.VtparseBroken", spec := "vtparseBroken", inPlace := ["internal/bytealg.IndexByteString", "internal/bytealg.IndexString"], unfollowed := true, recurses := true, named := ["internal/strconv.uint64pow10", "math/bits.deBruijn32tab", "math/bits.deBruijn64tab", "unicode/utf8.first", "unicode/utf8.acceptRanges", "internal/bytealg.MaxLen"], apart := false, laid := [("math/bits.deBruijn32tab", laid_math_bits_deBruijn32tab), ("math/bits.deBruijn64tab", laid_math_bits_deBruijn64tab), ("internal/strconv.uint64pow10", laid_internal_strconv_uint64pow10), ("unicode/utf8.acceptRanges", laid_unicode_utf8_acceptRanges), ("unicode/utf8.first", laid_unicode_utf8_first)] }
def VtparseBrokenSaid : Prop := vtparseBrokenRow.holds Tryd.pinned (OpenSpec.ofChange vtparseBrokenSpec)

/-- ITS FALSE NEIGHBOUR: 'it returns false'. Refute it at one input. -/
def vtparseBrokenWrong : ChangeSpec := { name := "vtparseBroken", fn := fun _ => fun
  | [d1, d2, d3] => { results := [.lit (.bool false)], args := [d1, d2, d3] }
  | _ => none }
def VtparseBrokenWrongFalsely : Prop := vtparseBrokenRow.holds Tryd.pinned (OpenSpec.ofChange vtparseBrokenWrong)

/- THE SECOND FORM. 'bulk': how many values and letters a reading holds, each counted each time it is reached (what is shared counts as often as it is met; a slice's spare places count too). A statement '..UptoSaid' is the law's where the arguments, and the package variables that the reading takes, are together of bulk at most 1048576: NARROWER than '..Said'. Prove '..Said' where nothing that the law and all that it calls make is longer than what came in: it says more and counts as full. Else prove '..UptoSaid'. A law counts once. -/
mutual
def uptoBulk {H : Type} : DataW H → Nat
  | .lit (.string bytes) => bytes.length + 1
  | .lit _ => 1
  | .nil => 1
  | .ptr d => uptoBulk d + 1
  | .slice elems spare => uptoBulkAll elems + uptoBulkAll spare + 1
  | .agg parts => uptoBulkAll parts + 1
  | .iface _ d => uptoBulk d + 1
  | .map entries => uptoBulkEntries entries + 1
  | .held _ => 1
def uptoBulkAll {H : Type} : List (DataW H) → Nat
  | [] => 0
  | d :: r => uptoBulk d + uptoBulkAll r
def uptoBulkEntries {H : Type} : List (Lit × DataW H) → Nat
  | [] => 0
  | x :: r => uptoBulkEntry x + uptoBulkEntries r
def uptoBulkEntry {H : Type} : Lit × DataW H → Nat
  | (.string bytes, d) => bytes.length + uptoBulk d + 1
  | (_, d) => uptoBulk d + 1
 end
def uptoSmall : (H : Type) → List (DataW H) → Bool := fun _ ds => decide (uptoBulkAll ds ≤ 1048576)
def OpenSpec.upto (s : _root_.Go.ChangeSpec) : _root_.Go.OpenSpec := { _root_.Go.OpenSpec.ofChange s with cond := some uptoSmall }

/-- 'narratorlaw06.VtparseFeed', WHERE WHAT IT READS IS OF BULK AT MOST 1048576: true; the input reads as it did. -/
def vtparseFeedUptoRow : OpenClaim := { program := "ytckknodckiljkaadoor", sum := "7a082a60e2692718beaae2e1002576d65c76707be79d1eb01b9d0d32a624314f", func := "narrator/narratorlaw06.VtparseFeed", spec := "vtparseFeed", inPlace := ["internal/bytealg.IndexByteString", "internal/bytealg.IndexString"], unfollowed := true, recurses := true, named := ["unicode/utf8.first", "unicode/utf8.acceptRanges", "internal/bytealg.MaxLen"], apart := false, laid := [("unicode/utf8.acceptRanges", laid_unicode_utf8_acceptRanges), ("unicode/utf8.first", laid_unicode_utf8_first)], narrowed := true }
def VtparseFeedUptoSaid : Prop := vtparseFeedUptoRow.holds Tryd.pinned (OpenSpec.upto vtparseFeedSpec)

/-- 'narratorlaw06.VtparseEncode', WHERE WHAT IT READS IS OF BULK AT MOST 1048576: true; the input reads as it did. -/
def vtparseEncodeUptoRow : OpenClaim := { program := "ytckknodckiljkaadoor", sum := "7a082a60e2692718beaae2e1002576d65c76707be79d1eb01b9d0d32a624314f", func := "narrator/narratorlaw06.VtparseEncode", spec := "vtparseEncode", inPlace := ["internal/bytealg.IndexByteString", "internal/bytealg.IndexString"], unfollowed := true, recurses := true, named := ["unicode/utf8.first", "unicode/utf8.acceptRanges", "internal/strconv.uint64pow10", "math/bits.deBruijn32tab", "math/bits.deBruijn64tab", "internal/bytealg.MaxLen"], apart := false, laid := [("math/bits.deBruijn32tab", laid_math_bits_deBruijn32tab), ("math/bits.deBruijn64tab", laid_math_bits_deBruijn64tab), ("internal/strconv.uint64pow10", laid_internal_strconv_uint64pow10), ("unicode/utf8.acceptRanges", laid_unicode_utf8_acceptRanges), ("unicode/utf8.first", laid_unicode_utf8_first)], narrowed := true }
def VtparseEncodeUptoSaid : Prop := vtparseEncodeUptoRow.holds Tryd.pinned (OpenSpec.upto vtparseEncodeSpec)

/-- 'narratorlaw06.VtparseSplit', WHERE WHAT IT READS IS OF BULK AT MOST 1048576: true; the input reads as it did. -/
def vtparseSplitUptoRow : OpenClaim := { program := "ytckknodckiljkaadoor", sum := "7a082a60e2692718beaae2e1002576d65c76707be79d1eb01b9d0d32a624314f", func := "narrator/narratorlaw06.VtparseSplit", spec := "vtparseSplit", inPlace := ["internal/bytealg.IndexByteString", "internal/bytealg.IndexString"], unfollowed := true, recurses := true, named := ["unicode/utf8.first", "unicode/utf8.acceptRanges", "internal/bytealg.MaxLen"], apart := false, laid := [("unicode/utf8.acceptRanges", laid_unicode_utf8_acceptRanges), ("unicode/utf8.first", laid_unicode_utf8_first)], narrowed := true }
def VtparseSplitUptoSaid : Prop := vtparseSplitUptoRow.holds Tryd.pinned (OpenSpec.upto vtparseSplitSpec)

/-- 'narratorlaw06.VtparseValid', WHERE WHAT IT READS IS OF BULK AT MOST 1048576: true; the input reads as it did. -/
def vtparseValidUptoRow : OpenClaim := { program := "ytckknodckiljkaadoor", sum := "7a082a60e2692718beaae2e1002576d65c76707be79d1eb01b9d0d32a624314f", func := "narrator/narratorlaw06.VtparseValid", spec := "vtparseValid", inPlace := ["internal/bytealg.IndexByteString", "internal/bytealg.IndexString"], unfollowed := true, recurses := true, named := ["unicode/utf8.first", "unicode/utf8.acceptRanges", "internal/strconv.uint64pow10", "math/bits.deBruijn32tab", "math/bits.deBruijn64tab", "internal/bytealg.MaxLen"], apart := false, laid := [("math/bits.deBruijn32tab", laid_math_bits_deBruijn32tab), ("math/bits.deBruijn64tab", laid_math_bits_deBruijn64tab), ("internal/strconv.uint64pow10", laid_internal_strconv_uint64pow10), ("unicode/utf8.acceptRanges", laid_unicode_utf8_acceptRanges), ("unicode/utf8.first", laid_unicode_utf8_first)], narrowed := true }
def VtparseValidUptoSaid : Prop := vtparseValidUptoRow.holds Tryd.pinned (OpenSpec.upto vtparseValidSpec)

/-- 'narratorlaw06.VtparseRoundTrip', WHERE WHAT IT READS IS OF BULK AT MOST 1048576: true; the input reads as it did. -/
def vtparseRoundTripUptoRow : OpenClaim := { program := "ytckknodckiljkaadoor", sum := "7a082a60e2692718beaae2e1002576d65c76707be79d1eb01b9d0d32a624314f", func := "narrator/narratorlaw06.VtparseRoundTrip", spec := "vtparseRoundTrip", inPlace := ["internal/bytealg.IndexByteString", "internal/bytealg.IndexString"], unfollowed := true, recurses := true, named := ["unicode/utf8.first", "unicode/utf8.acceptRanges", "internal/strconv.uint64pow10", "math/bits.deBruijn32tab", "math/bits.deBruijn64tab", "internal/bytealg.MaxLen"], apart := false, laid := [("math/bits.deBruijn32tab", laid_math_bits_deBruijn32tab), ("math/bits.deBruijn64tab", laid_math_bits_deBruijn64tab), ("internal/strconv.uint64pow10", laid_internal_strconv_uint64pow10), ("unicode/utf8.acceptRanges", laid_unicode_utf8_acceptRanges), ("unicode/utf8.first", laid_unicode_utf8_first)], narrowed := true }
def VtparseRoundTripUptoSaid : Prop := vtparseRoundTripUptoRow.holds Tryd.pinned (OpenSpec.upto vtparseRoundTripSpec)

/-- 'narratorlaw06.VtparseCancel', WHERE WHAT IT READS IS OF BULK AT MOST 1048576: true; the input reads as it did. -/
def vtparseCancelUptoRow : OpenClaim := { program := "ytckknodckiljkaadoor", sum := "7a082a60e2692718beaae2e1002576d65c76707be79d1eb01b9d0d32a624314f", func := "narrator/narratorlaw06.VtparseCancel", spec := "vtparseCancel", inPlace := ["internal/bytealg.IndexByteString", "internal/bytealg.IndexString"], unfollowed := true, recurses := true, named := ["unicode/utf8.first", "unicode/utf8.acceptRanges", "internal/bytealg.MaxLen"], apart := false, laid := [("unicode/utf8.acceptRanges", laid_unicode_utf8_acceptRanges), ("unicode/utf8.first", laid_unicode_utf8_first)], narrowed := true }
def VtparseCancelUptoSaid : Prop := vtparseCancelUptoRow.holds Tryd.pinned (OpenSpec.upto vtparseCancelSpec)

/-- 'narratorlaw06.VtparseControls', WHERE WHAT IT READS IS OF BULK AT MOST 1048576: true; the input reads as it did. -/
def vtparseControlsUptoRow : OpenClaim := { program := "ytckknodckiljkaadoor", sum := "7a082a60e2692718beaae2e1002576d65c76707be79d1eb01b9d0d32a624314f", func := "narrator/narratorlaw06.VtparseControls", spec := "vtparseControls", inPlace := ["internal/bytealg.IndexByteString", "internal/bytealg.IndexString"], unfollowed := true, recurses := true, named := ["internal/strconv.uint64pow10", "math/bits.deBruijn32tab", "math/bits.deBruijn64tab", "unicode/utf8.first", "unicode/utf8.acceptRanges", "internal/bytealg.MaxLen"], apart := false, laid := [("math/bits.deBruijn32tab", laid_math_bits_deBruijn32tab), ("math/bits.deBruijn64tab", laid_math_bits_deBruijn64tab), ("internal/strconv.uint64pow10", laid_internal_strconv_uint64pow10), ("unicode/utf8.acceptRanges", laid_unicode_utf8_acceptRanges), ("unicode/utf8.first", laid_unicode_utf8_first)], narrowed := true }
def VtparseControlsUptoSaid : Prop := vtparseControlsUptoRow.holds Tryd.pinned (OpenSpec.upto vtparseControlsSpec)

/-- 'narratorlaw06.VtparseText', WHERE WHAT IT READS IS OF BULK AT MOST 1048576: true; the input reads as it did. -/
def vtparseTextUptoRow : OpenClaim := { program := "ytckknodckiljkaadoor", sum := "7a082a60e2692718beaae2e1002576d65c76707be79d1eb01b9d0d32a624314f", func := "narrator/narratorlaw06.VtparseText", spec := "vtparseText", inPlace := ["internal/bytealg.IndexByteString", "internal/bytealg.IndexString"], unfollowed := true, recurses := true, named := ["unicode/utf8.first", "unicode/utf8.acceptRanges", "internal/bytealg.MaxLen"], apart := false, laid := [("unicode/utf8.acceptRanges", laid_unicode_utf8_acceptRanges), ("unicode/utf8.first", laid_unicode_utf8_first)], narrowed := true }
def VtparseTextUptoSaid : Prop := vtparseTextUptoRow.holds Tryd.pinned (OpenSpec.upto vtparseTextSpec)

/-- 'narratorlaw06.VtparseBroken', WHERE WHAT IT READS IS OF BULK AT MOST 1048576: true; the input reads as it did. -/
def vtparseBrokenUptoRow : OpenClaim := { program := "ytckknodckiljkaadoor", sum := "7a082a60e2692718beaae2e1002576d65c76707be79d1eb01b9d0d32a624314f", func := "narrator/narratorlaw06.VtparseBroken", spec := "vtparseBroken", inPlace := ["internal/bytealg.IndexByteString", "internal/bytealg.IndexString"], unfollowed := true, recurses := true, named := ["internal/strconv.uint64pow10", "math/bits.deBruijn32tab", "math/bits.deBruijn64tab", "unicode/utf8.first", "unicode/utf8.acceptRanges", "internal/bytealg.MaxLen"], apart := false, laid := [("math/bits.deBruijn32tab", laid_math_bits_deBruijn32tab), ("math/bits.deBruijn64tab", laid_math_bits_deBruijn64tab), ("internal/strconv.uint64pow10", laid_internal_strconv_uint64pow10), ("unicode/utf8.acceptRanges", laid_unicode_utf8_acceptRanges), ("unicode/utf8.first", laid_unicode_utf8_first)], narrowed := true }
def VtparseBrokenUptoSaid : Prop := vtparseBrokenUptoRow.holds Tryd.pinned (OpenSpec.upto vtparseBrokenSpec)

end Rows
end Go.Proofs.YtckknodckiljkaaDoor
