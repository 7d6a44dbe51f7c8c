/-
  NARROWER THAN 'FOR EVERY INPUT', by the rows' own cells (each row's printed sentence says how): ProcsetLists: laid · ProcsetCollects: laid · ProcsetChooses: laid · ProcsetReads: laid · ProcsetReturns: laid · ProcsetCounts: laid · ProcsetMirrors: laid · PermutationChecks: laid · PermutationComposes: laid · PermutationActs: laid · PermutationGenerates: laid · PermutationTexts: laid.
  DERIVED. THE GIVEN ROWS OF THIS SEAT. 12 by the template 'for every input the law returns true; each argument reads behind the call as it read before'; 0 by the template 'total and deterministic' (their statements: YtpdlnijdcgcfbaaDoorTotals.lean).
  GIVEN WITH THE SEED: the statements are not yours to turn. If you find one false, say at which input.
  Laid BY PROGRAM, IN A SANDBOX (cutbox-rows.mjs): the forced cells as the released guide's own fill.sh prints them over the translation 054e908bb42f71a6… (all of the seat's roots in one cut). By AI agents, Wed Nov 11 2026. No macro, syntax, notation, axiom, sorry.
-/
import Derived.Test.YtpdlnijdcgcfbaaDoorChecked
import GoSem.PinnedTables
import GoSem.Claim
import GoSem.ClaimJoined
import GoSem.ClaimMapViews
import Derived.JoinedTies
import Derived.KernelRfl
namespace Go.Proofs.YtpdlnijdcgcfbaaDoor
/- THE CELL 'sum', in the pinned program and in every row, IS THE sha256 OF THE DUMP (.gsa) THAT YtpdlnijdcgcfbaaDoorProg.lean LOADS. Nothing in Lean hashes anything: it is a label: what it is worth is what the hold of that sum in a sandbox is worth. -/
noncomputable def Tryd.pinned : Pinned := { name := "ytpdlnijdcgcfbaadoor", sum := "054e908bb42f71a6bc0723335a3739fd09665a32854b5ccb805bc1de48066667", checked := Tryd.checked }
namespace Rows
def none {H : Type} : Left H := { results := [], args := [] }

/- WHAT THE LISTED PACKAGE-LEVEL VARIABLES READ AS WHEN THE CALL BEGINS. Each datum BY PROGRAM (the guide's laid-datum.mjs) off the statement by which the dump's own 'gosem.cut.vars' lays the variable. In a bare row this is a premise. The card (YtpdlnijdcgcfbaaDoorCards.lean) ties it to the program's text. -/
def laid_math_bits_deBruijn32tab {H : Type} : DataW H := .agg [.lit (.int .u8 0), .lit (.int .u8 1), .lit (.int .u8 28), .lit (.int .u8 2), .lit (.int .u8 29), .lit (.int .u8 14), .lit (.int .u8 24), .lit (.int .u8 3), .lit (.int .u8 30), .lit (.int .u8 22), .lit (.int .u8 20), .lit (.int .u8 15), .lit (.int .u8 25), .lit (.int .u8 17), .lit (.int .u8 4), .lit (.int .u8 8), .lit (.int .u8 31), .lit (.int .u8 27), .lit (.int .u8 13), .lit (.int .u8 23), .lit (.int .u8 21), .lit (.int .u8 19), .lit (.int .u8 16), .lit (.int .u8 7), .lit (.int .u8 26), .lit (.int .u8 12), .lit (.int .u8 18), .lit (.int .u8 6), .lit (.int .u8 11), .lit (.int .u8 5), .lit (.int .u8 10), .lit (.int .u8 9)]
def laid_math_bits_deBruijn64tab {H : Type} : DataW H := .agg [.lit (.int .u8 0), .lit (.int .u8 1), .lit (.int .u8 56), .lit (.int .u8 2), .lit (.int .u8 57), .lit (.int .u8 49), .lit (.int .u8 28), .lit (.int .u8 3), .lit (.int .u8 61), .lit (.int .u8 58), .lit (.int .u8 42), .lit (.int .u8 50), .lit (.int .u8 38), .lit (.int .u8 29), .lit (.int .u8 17), .lit (.int .u8 4), .lit (.int .u8 62), .lit (.int .u8 47), .lit (.int .u8 59), .lit (.int .u8 36), .lit (.int .u8 45), .lit (.int .u8 43), .lit (.int .u8 51), .lit (.int .u8 22), .lit (.int .u8 53), .lit (.int .u8 39), .lit (.int .u8 33), .lit (.int .u8 30), .lit (.int .u8 24), .lit (.int .u8 18), .lit (.int .u8 12), .lit (.int .u8 5), .lit (.int .u8 63), .lit (.int .u8 55), .lit (.int .u8 48), .lit (.int .u8 27), .lit (.int .u8 60), .lit (.int .u8 41), .lit (.int .u8 37), .lit (.int .u8 16), .lit (.int .u8 46), .lit (.int .u8 35), .lit (.int .u8 44), .lit (.int .u8 21), .lit (.int .u8 52), .lit (.int .u8 32), .lit (.int .u8 23), .lit (.int .u8 11), .lit (.int .u8 54), .lit (.int .u8 26), .lit (.int .u8 40), .lit (.int .u8 15), .lit (.int .u8 34), .lit (.int .u8 20), .lit (.int .u8 31), .lit (.int .u8 10), .lit (.int .u8 25), .lit (.int .u8 14), .lit (.int .u8 19), .lit (.int .u8 9), .lit (.int .u8 13), .lit (.int .u8 8), .lit (.int .u8 7), .lit (.int .u8 6)]
def laid_internal_strconv_uint64pow10 {H : Type} : DataW H := .agg [.lit (.int .u64 1), .lit (.int .u64 10), .lit (.int .u64 100), .lit (.int .u64 1000), .lit (.int .u64 10000), .lit (.int .u64 100000), .lit (.int .u64 1000000), .lit (.int .u64 10000000), .lit (.int .u64 100000000), .lit (.int .u64 1000000000), .lit (.int .u64 10000000000), .lit (.int .u64 100000000000), .lit (.int .u64 1000000000000), .lit (.int .u64 10000000000000), .lit (.int .u64 100000000000000), .lit (.int .u64 1000000000000000), .lit (.int .u64 10000000000000000), .lit (.int .u64 100000000000000000), .lit (.int .u64 1000000000000000000), .lit (.int .u64 10000000000000000000)]
def laid_unicode_utf8_acceptRanges {H : Type} : DataW H := .agg [.agg [.lit (.int .u8 128), .lit (.int .u8 191)], .agg [.lit (.int .u8 160), .lit (.int .u8 191)], .agg [.lit (.int .u8 128), .lit (.int .u8 159)], .agg [.lit (.int .u8 144), .lit (.int .u8 191)], .agg [.lit (.int .u8 128), .lit (.int .u8 143)], .agg [.lit (.int .u8 0), .lit (.int .u8 0)], .agg [.lit (.int .u8 0), .lit (.int .u8 0)], .agg [.lit (.int .u8 0), .lit (.int .u8 0)], .agg [.lit (.int .u8 0), .lit (.int .u8 0)], .agg [.lit (.int .u8 0), .lit (.int .u8 0)], .agg [.lit (.int .u8 0), .lit (.int .u8 0)], .agg [.lit (.int .u8 0), .lit (.int .u8 0)], .agg [.lit (.int .u8 0), .lit (.int .u8 0)], .agg [.lit (.int .u8 0), .lit (.int .u8 0)], .agg [.lit (.int .u8 0), .lit (.int .u8 0)], .agg [.lit (.int .u8 0), .lit (.int .u8 0)]]
/-- One of Go's own tables, pinned by name: the form's constant. -/
def laid_unicode_utf8_first : DataW Unit := Go.Pinned.utf8First

/-- 'roundtablelaw01.ProcsetLists': WHATEVER THE INPUT: true; the input reads as it did. -/
def procsetListsSpec : ChangeSpec := { name := "procsetLists", fn := fun _ => fun
  | [d1, d2] => { results := [.lit (.bool true)], args := [d1, d2] }
  | _ => none }
def procsetListsRow : OpenClaim := { program := "ytpdlnijdcgcfbaadoor", sum := "054e908bb42f71a6bc0723335a3739fd09665a32854b5ccb805bc1de48066667", func := "roundtable/roundtablelaw01.ProcsetLists", spec := "procsetLists", inPlace := ["internal/abi.NoEscape", "internal/bytealg.MakeNoZero", "internal/bytealg.CountString", "internal/bytealg.IndexByteString", "internal/bytealg.IndexString"], unfollowed := true, recurses := true, named := ["math/bits.deBruijn32tab", "math/bits.deBruijn64tab", "internal/strconv.uint64pow10", "unicode/utf8.first", "unicode/utf8.acceptRanges", "internal/bytealg.MaxLen"], plainKeys := false, apart := false, laid := [("math/bits.deBruijn32tab", laid_math_bits_deBruijn32tab), ("math/bits.deBruijn64tab", laid_math_bits_deBruijn64tab), ("internal/strconv.uint64pow10", laid_internal_strconv_uint64pow10), ("unicode/utf8.acceptRanges", laid_unicode_utf8_acceptRanges), ("unicode/utf8.first", laid_unicode_utf8_first)] }
def ProcsetListsSaid : Prop := procsetListsRow.holds Tryd.pinned (OpenSpec.ofChange procsetListsSpec)

/-- ITS FALSE NEIGHBOUR: 'it returns false'. Refute it at one input. -/
def procsetListsWrong : ChangeSpec := { name := "procsetLists", fn := fun _ => fun
  | [d1, d2] => { results := [.lit (.bool false)], args := [d1, d2] }
  | _ => none }
def ProcsetListsWrongFalsely : Prop := procsetListsRow.holds Tryd.pinned (OpenSpec.ofChange procsetListsWrong)

/-- 'roundtablelaw01.ProcsetCollects': WHATEVER THE INPUT: true; the input reads as it did. -/
def procsetCollectsSpec : ChangeSpec := { name := "procsetCollects", fn := fun _ => fun
  | [d1, d2] => { results := [.lit (.bool true)], args := [d1, d2] }
  | _ => none }
def procsetCollectsRow : OpenClaim := { program := "ytpdlnijdcgcfbaadoor", sum := "054e908bb42f71a6bc0723335a3739fd09665a32854b5ccb805bc1de48066667", func := "roundtable/roundtablelaw01.ProcsetCollects", spec := "procsetCollects", inPlace := ["internal/abi.NoEscape", "internal/bytealg.MakeNoZero", "internal/bytealg.CountString", "internal/bytealg.IndexByteString", "internal/bytealg.IndexString"], unfollowed := true, recurses := true, named := ["math/bits.deBruijn32tab", "math/bits.deBruijn64tab", "internal/strconv.uint64pow10", "unicode/utf8.first", "unicode/utf8.acceptRanges", "internal/bytealg.MaxLen"], plainKeys := false, apart := false, laid := [("math/bits.deBruijn32tab", laid_math_bits_deBruijn32tab), ("math/bits.deBruijn64tab", laid_math_bits_deBruijn64tab), ("internal/strconv.uint64pow10", laid_internal_strconv_uint64pow10), ("unicode/utf8.acceptRanges", laid_unicode_utf8_acceptRanges), ("unicode/utf8.first", laid_unicode_utf8_first)] }
def ProcsetCollectsSaid : Prop := procsetCollectsRow.holds Tryd.pinned (OpenSpec.ofChange procsetCollectsSpec)

/-- ITS FALSE NEIGHBOUR: 'it returns false'. Refute it at one input. -/
def procsetCollectsWrong : ChangeSpec := { name := "procsetCollects", fn := fun _ => fun
  | [d1, d2] => { results := [.lit (.bool false)], args := [d1, d2] }
  | _ => none }
def ProcsetCollectsWrongFalsely : Prop := procsetCollectsRow.holds Tryd.pinned (OpenSpec.ofChange procsetCollectsWrong)

/-- 'roundtablelaw01.ProcsetChooses': WHATEVER THE INPUT: true; the input reads as it did. -/
def procsetChoosesSpec : ChangeSpec := { name := "procsetChooses", fn := fun _ => fun
  | [d1, d2, d3] => { results := [.lit (.bool true)], args := [d1, d2, d3] }
  | _ => none }
def procsetChoosesRow : OpenClaim := { program := "ytpdlnijdcgcfbaadoor", sum := "054e908bb42f71a6bc0723335a3739fd09665a32854b5ccb805bc1de48066667", func := "roundtable/roundtablelaw01.ProcsetChooses", spec := "procsetChooses", inPlace := ["internal/abi.NoEscape", "internal/bytealg.MakeNoZero", "internal/bytealg.CountString", "internal/bytealg.IndexByteString", "internal/bytealg.IndexString"], unfollowed := true, recurses := true, named := ["math/bits.deBruijn32tab", "math/bits.deBruijn64tab", "internal/strconv.uint64pow10", "unicode/utf8.first", "unicode/utf8.acceptRanges", "internal/bytealg.MaxLen"], plainKeys := false, apart := false, laid := [("math/bits.deBruijn32tab", laid_math_bits_deBruijn32tab), ("math/bits.deBruijn64tab", laid_math_bits_deBruijn64tab), ("internal/strconv.uint64pow10", laid_internal_strconv_uint64pow10), ("unicode/utf8.acceptRanges", laid_unicode_utf8_acceptRanges), ("unicode/utf8.first", laid_unicode_utf8_first)] }
def ProcsetChoosesSaid : Prop := procsetChoosesRow.holds Tryd.pinned (OpenSpec.ofChange procsetChoosesSpec)

/-- ITS FALSE NEIGHBOUR: 'it returns false'. Refute it at one input. -/
def procsetChoosesWrong : ChangeSpec := { name := "procsetChooses", fn := fun _ => fun
  | [d1, d2, d3] => { results := [.lit (.bool false)], args := [d1, d2, d3] }
  | _ => none }
def ProcsetChoosesWrongFalsely : Prop := procsetChoosesRow.holds Tryd.pinned (OpenSpec.ofChange procsetChoosesWrong)

/-- 'roundtablelaw01.ProcsetReads': WHATEVER THE INPUT: true; the input reads as it did. -/
def procsetReadsSpec : ChangeSpec := { name := "procsetReads", fn := fun _ => fun
  | [d1, d2, d3] => { results := [.lit (.bool true)], args := [d1, d2, d3] }
  | _ => none }
def procsetReadsRow : OpenClaim := { program := "ytpdlnijdcgcfbaadoor", sum := "054e908bb42f71a6bc0723335a3739fd09665a32854b5ccb805bc1de48066667", func := "roundtable/roundtablelaw01.ProcsetReads", spec := "procsetReads", inPlace := ["internal/abi.NoEscape", "internal/bytealg.MakeNoZero", "internal/bytealg.CountString", "internal/bytealg.IndexByteString", "internal/bytealg.IndexString"], unfollowed := true, recurses := true, named := ["math/bits.deBruijn32tab", "math/bits.deBruijn64tab", "internal/strconv.uint64pow10", "unicode/utf8.first", "unicode/utf8.acceptRanges", "internal/bytealg.MaxLen"], plainKeys := false, apart := false, laid := [("math/bits.deBruijn32tab", laid_math_bits_deBruijn32tab), ("math/bits.deBruijn64tab", laid_math_bits_deBruijn64tab), ("internal/strconv.uint64pow10", laid_internal_strconv_uint64pow10), ("unicode/utf8.acceptRanges", laid_unicode_utf8_acceptRanges), ("unicode/utf8.first", laid_unicode_utf8_first)] }
def ProcsetReadsSaid : Prop := procsetReadsRow.holds Tryd.pinned (OpenSpec.ofChange procsetReadsSpec)

/-- ITS FALSE NEIGHBOUR: 'it returns false'. Refute it at one input. -/
def procsetReadsWrong : ChangeSpec := { name := "procsetReads", fn := fun _ => fun
  | [d1, d2, d3] => { results := [.lit (.bool false)], args := [d1, d2, d3] }
  | _ => none }
def ProcsetReadsWrongFalsely : Prop := procsetReadsRow.holds Tryd.pinned (OpenSpec.ofChange procsetReadsWrong)

/-- 'roundtablelaw01.ProcsetReturns': WHATEVER THE INPUT: true; the input reads as it did. -/
def procsetReturnsSpec : ChangeSpec := { name := "procsetReturns", fn := fun _ => fun
  | [d1, d2] => { results := [.lit (.bool true)], args := [d1, d2] }
  | _ => none }
def procsetReturnsRow : OpenClaim := { program := "ytpdlnijdcgcfbaadoor", sum := "054e908bb42f71a6bc0723335a3739fd09665a32854b5ccb805bc1de48066667", func := "roundtable/roundtablelaw01.ProcsetReturns", spec := "procsetReturns", inPlace := ["internal/abi.NoEscape", "internal/bytealg.MakeNoZero", "internal/bytealg.CountString", "internal/bytealg.IndexByteString", "internal/bytealg.IndexString"], unfollowed := true, recurses := true, named := ["math/bits.deBruijn32tab", "math/bits.deBruijn64tab", "internal/strconv.uint64pow10", "unicode/utf8.first", "unicode/utf8.acceptRanges", "internal/bytealg.MaxLen"], plainKeys := false, apart := false, laid := [("math/bits.deBruijn32tab", laid_math_bits_deBruijn32tab), ("math/bits.deBruijn64tab", laid_math_bits_deBruijn64tab), ("internal/strconv.uint64pow10", laid_internal_strconv_uint64pow10), ("unicode/utf8.acceptRanges", laid_unicode_utf8_acceptRanges), ("unicode/utf8.first", laid_unicode_utf8_first)] }
def ProcsetReturnsSaid : Prop := procsetReturnsRow.holds Tryd.pinned (OpenSpec.ofChange procsetReturnsSpec)

/-- ITS FALSE NEIGHBOUR: 'it returns false'. Refute it at one input. -/
def procsetReturnsWrong : ChangeSpec := { name := "procsetReturns", fn := fun _ => fun
  | [d1, d2] => { results := [.lit (.bool false)], args := [d1, d2] }
  | _ => none }
def ProcsetReturnsWrongFalsely : Prop := procsetReturnsRow.holds Tryd.pinned (OpenSpec.ofChange procsetReturnsWrong)

/-- 'roundtablelaw01.ProcsetCounts': WHATEVER THE INPUT: true; the input reads as it did. -/
def procsetCountsSpec : ChangeSpec := { name := "procsetCounts", fn := fun _ => fun
  | [d1, d2] => { results := [.lit (.bool true)], args := [d1, d2] }
  | _ => none }
def procsetCountsRow : OpenClaim := { program := "ytpdlnijdcgcfbaadoor", sum := "054e908bb42f71a6bc0723335a3739fd09665a32854b5ccb805bc1de48066667", func := "roundtable/roundtablelaw01.ProcsetCounts", spec := "procsetCounts", inPlace := ["internal/abi.NoEscape", "internal/bytealg.MakeNoZero", "internal/bytealg.CountString", "internal/bytealg.IndexByteString", "internal/bytealg.IndexString"], unfollowed := true, recurses := true, named := ["math/bits.deBruijn32tab", "math/bits.deBruijn64tab", "internal/strconv.uint64pow10", "unicode/utf8.first", "unicode/utf8.acceptRanges", "internal/bytealg.MaxLen"], plainKeys := false, apart := false, laid := [("math/bits.deBruijn32tab", laid_math_bits_deBruijn32tab), ("math/bits.deBruijn64tab", laid_math_bits_deBruijn64tab), ("internal/strconv.uint64pow10", laid_internal_strconv_uint64pow10), ("unicode/utf8.acceptRanges", laid_unicode_utf8_acceptRanges), ("unicode/utf8.first", laid_unicode_utf8_first)] }
def ProcsetCountsSaid : Prop := procsetCountsRow.holds Tryd.pinned (OpenSpec.ofChange procsetCountsSpec)

/-- ITS FALSE NEIGHBOUR: 'it returns false'. Refute it at one input. -/
def procsetCountsWrong : ChangeSpec := { name := "procsetCounts", fn := fun _ => fun
  | [d1, d2] => { results := [.lit (.bool false)], args := [d1, d2] }
  | _ => none }
def ProcsetCountsWrongFalsely : Prop := procsetCountsRow.holds Tryd.pinned (OpenSpec.ofChange procsetCountsWrong)

/-- 'roundtablelaw01.ProcsetMirrors': WHATEVER THE INPUT: true; the input reads as it did. -/
def procsetMirrorsSpec : ChangeSpec := { name := "procsetMirrors", fn := fun _ => fun
  | [d1, d2, d3] => { results := [.lit (.bool true)], args := [d1, d2, d3] }
  | _ => none }
def procsetMirrorsRow : OpenClaim := { program := "ytpdlnijdcgcfbaadoor", sum := "054e908bb42f71a6bc0723335a3739fd09665a32854b5ccb805bc1de48066667", func := "roundtable/roundtablelaw01.ProcsetMirrors", spec := "procsetMirrors", inPlace := ["internal/abi.NoEscape", "internal/bytealg.MakeNoZero", "internal/bytealg.CountString", "internal/bytealg.IndexByteString", "internal/bytealg.IndexString"], unfollowed := true, recurses := true, named := ["math/bits.deBruijn32tab", "math/bits.deBruijn64tab", "internal/strconv.uint64pow10", "unicode/utf8.first", "unicode/utf8.acceptRanges", "internal/bytealg.MaxLen"], plainKeys := false, apart := false, laid := [("math/bits.deBruijn32tab", laid_math_bits_deBruijn32tab), ("math/bits.deBruijn64tab", laid_math_bits_deBruijn64tab), ("internal/strconv.uint64pow10", laid_internal_strconv_uint64pow10), ("unicode/utf8.acceptRanges", laid_unicode_utf8_acceptRanges), ("unicode/utf8.first", laid_unicode_utf8_first)] }
def ProcsetMirrorsSaid : Prop := procsetMirrorsRow.holds Tryd.pinned (OpenSpec.ofChange procsetMirrorsSpec)

/-- ITS FALSE NEIGHBOUR: 'it returns false'. Refute it at one input. -/
def procsetMirrorsWrong : ChangeSpec := { name := "procsetMirrors", fn := fun _ => fun
  | [d1, d2, d3] => { results := [.lit (.bool false)], args := [d1, d2, d3] }
  | _ => none }
def ProcsetMirrorsWrongFalsely : Prop := procsetMirrorsRow.holds Tryd.pinned (OpenSpec.ofChange procsetMirrorsWrong)

/-- 'roundtablelaw02.PermutationChecks': WHATEVER THE INPUT: true; the input reads as it did. -/
def permutationChecksSpec : ChangeSpec := { name := "permutationChecks", fn := fun _ => fun
  | [d] => { results := [.lit (.bool true)], args := [d] }
  | _ => none }
def permutationChecksRow : OpenClaim := { program := "ytpdlnijdcgcfbaadoor", sum := "054e908bb42f71a6bc0723335a3739fd09665a32854b5ccb805bc1de48066667", func := "roundtable/roundtablelaw02.PermutationChecks", spec := "permutationChecks", unfollowed := true, recurses := true, named := ["internal/strconv.uint64pow10", "math/bits.deBruijn32tab", "math/bits.deBruijn64tab"], plainKeys := false, apart := false, laid := [("math/bits.deBruijn32tab", laid_math_bits_deBruijn32tab), ("math/bits.deBruijn64tab", laid_math_bits_deBruijn64tab), ("internal/strconv.uint64pow10", laid_internal_strconv_uint64pow10)] }
def PermutationChecksSaid : Prop := permutationChecksRow.holds Tryd.pinned (OpenSpec.ofChange permutationChecksSpec)

/-- ITS FALSE NEIGHBOUR: 'it returns false'. Refute it at one input. -/
def permutationChecksWrong : ChangeSpec := { name := "permutationChecks", fn := fun _ => fun
  | [d] => { results := [.lit (.bool false)], args := [d] }
  | _ => none }
def PermutationChecksWrongFalsely : Prop := permutationChecksRow.holds Tryd.pinned (OpenSpec.ofChange permutationChecksWrong)

/-- 'roundtablelaw02.PermutationComposes': WHATEVER THE INPUT: true; the input reads as it did. -/
def permutationComposesSpec : ChangeSpec := { name := "permutationComposes", fn := fun _ => fun
  | [d1, d2, d3] => { results := [.lit (.bool true)], args := [d1, d2, d3] }
  | _ => none }
def permutationComposesRow : OpenClaim := { program := "ytpdlnijdcgcfbaadoor", sum := "054e908bb42f71a6bc0723335a3739fd09665a32854b5ccb805bc1de48066667", func := "roundtable/roundtablelaw02.PermutationComposes", spec := "permutationComposes", unfollowed := true, recurses := true, named := ["internal/strconv.uint64pow10", "math/bits.deBruijn32tab", "math/bits.deBruijn64tab"], plainKeys := false, apart := false, laid := [("math/bits.deBruijn32tab", laid_math_bits_deBruijn32tab), ("math/bits.deBruijn64tab", laid_math_bits_deBruijn64tab), ("internal/strconv.uint64pow10", laid_internal_strconv_uint64pow10)] }
def PermutationComposesSaid : Prop := permutationComposesRow.holds Tryd.pinned (OpenSpec.ofChange permutationComposesSpec)

/-- ITS FALSE NEIGHBOUR: 'it returns false'. Refute it at one input. -/
def permutationComposesWrong : ChangeSpec := { name := "permutationComposes", fn := fun _ => fun
  | [d1, d2, d3] => { results := [.lit (.bool false)], args := [d1, d2, d3] }
  | _ => none }
def PermutationComposesWrongFalsely : Prop := permutationComposesRow.holds Tryd.pinned (OpenSpec.ofChange permutationComposesWrong)

/-- 'roundtablelaw02.PermutationActs': WHATEVER THE INPUT: true; the input reads as it did. -/
def permutationActsSpec : ChangeSpec := { name := "permutationActs", fn := fun _ => fun
  | [d1, d2, d3] => { results := [.lit (.bool true)], args := [d1, d2, d3] }
  | _ => none }
def permutationActsRow : OpenClaim := { program := "ytpdlnijdcgcfbaadoor", sum := "054e908bb42f71a6bc0723335a3739fd09665a32854b5ccb805bc1de48066667", func := "roundtable/roundtablelaw02.PermutationActs", spec := "permutationActs", unfollowed := true, recurses := true, named := ["internal/strconv.uint64pow10", "math/bits.deBruijn32tab", "math/bits.deBruijn64tab"], plainKeys := false, apart := false, laid := [("math/bits.deBruijn32tab", laid_math_bits_deBruijn32tab), ("math/bits.deBruijn64tab", laid_math_bits_deBruijn64tab), ("internal/strconv.uint64pow10", laid_internal_strconv_uint64pow10)] }
def PermutationActsSaid : Prop := permutationActsRow.holds Tryd.pinned (OpenSpec.ofChange permutationActsSpec)

/-- ITS FALSE NEIGHBOUR: 'it returns false'. Refute it at one input. -/
def permutationActsWrong : ChangeSpec := { name := "permutationActs", fn := fun _ => fun
  | [d1, d2, d3] => { results := [.lit (.bool false)], args := [d1, d2, d3] }
  | _ => none }
def PermutationActsWrongFalsely : Prop := permutationActsRow.holds Tryd.pinned (OpenSpec.ofChange permutationActsWrong)

/-- 'roundtablelaw02.PermutationGenerates': WHATEVER THE INPUT: true; the input reads as it did. -/
def permutationGeneratesSpec : ChangeSpec := { name := "permutationGenerates", fn := fun _ => fun
  | [d1, d2] => { results := [.lit (.bool true)], args := [d1, d2] }
  | _ => none }
def permutationGeneratesRow : OpenClaim := { program := "ytpdlnijdcgcfbaadoor", sum := "054e908bb42f71a6bc0723335a3739fd09665a32854b5ccb805bc1de48066667", func := "roundtable/roundtablelaw02.PermutationGenerates", spec := "permutationGenerates", unfollowed := true, recurses := true, named := ["internal/strconv.uint64pow10", "math/bits.deBruijn32tab", "math/bits.deBruijn64tab"], plainKeys := false, apart := false, laid := [("math/bits.deBruijn32tab", laid_math_bits_deBruijn32tab), ("math/bits.deBruijn64tab", laid_math_bits_deBruijn64tab), ("internal/strconv.uint64pow10", laid_internal_strconv_uint64pow10)] }
def PermutationGeneratesSaid : Prop := permutationGeneratesRow.holds Tryd.pinned (OpenSpec.ofChange permutationGeneratesSpec)

/-- ITS FALSE NEIGHBOUR: 'it returns false'. Refute it at one input. -/
def permutationGeneratesWrong : ChangeSpec := { name := "permutationGenerates", fn := fun _ => fun
  | [d1, d2] => { results := [.lit (.bool false)], args := [d1, d2] }
  | _ => none }
def PermutationGeneratesWrongFalsely : Prop := permutationGeneratesRow.holds Tryd.pinned (OpenSpec.ofChange permutationGeneratesWrong)

/-- 'roundtablelaw02.PermutationTexts': WHATEVER THE INPUT: true; the input reads as it did. -/
def permutationTextsSpec : ChangeSpec := { name := "permutationTexts", fn := fun _ => fun
  | [d1, d2, d3] => { results := [.lit (.bool true)], args := [d1, d2, d3] }
  | _ => none }
def permutationTextsRow : OpenClaim := { program := "ytpdlnijdcgcfbaadoor", sum := "054e908bb42f71a6bc0723335a3739fd09665a32854b5ccb805bc1de48066667", func := "roundtable/roundtablelaw02.PermutationTexts", spec := "permutationTexts", unfollowed := true, recurses := true, named := ["internal/strconv.uint64pow10", "math/bits.deBruijn32tab", "math/bits.deBruijn64tab"], plainKeys := false, apart := false, laid := [("math/bits.deBruijn32tab", laid_math_bits_deBruijn32tab), ("math/bits.deBruijn64tab", laid_math_bits_deBruijn64tab), ("internal/strconv.uint64pow10", laid_internal_strconv_uint64pow10)] }
def PermutationTextsSaid : Prop := permutationTextsRow.holds Tryd.pinned (OpenSpec.ofChange permutationTextsSpec)

/-- ITS FALSE NEIGHBOUR: 'it returns false'. Refute it at one input. -/
def permutationTextsWrong : ChangeSpec := { name := "permutationTexts", fn := fun _ => fun
  | [d1, d2, d3] => { results := [.lit (.bool false)], args := [d1, d2, d3] }
  | _ => none }
def PermutationTextsWrongFalsely : Prop := permutationTextsRow.holds Tryd.pinned (OpenSpec.ofChange permutationTextsWrong)

/- THE SECOND FORM. 'bulk': how many values and letters a reading holds, each counted each time it is reached (what is shared counts as often as it is met; a slice's spare places count too). A statement '..UptoSaid' is the law's where the arguments, and the package variables that the reading takes, are together of bulk at most 1048576: NARROWER than '..Said'. Prove '..Said' where nothing that the law and all that it calls make is longer than what came in: it says more and counts as full. Else prove '..UptoSaid'. A law counts once. -/
mutual
def uptoBulk {H : Type} : DataW H → Nat
  | .lit (.string bytes) => bytes.length + 1
  | .lit _ => 1
  | .nil => 1
  | .ptr d => uptoBulk d + 1
  | .slice elems spare => uptoBulkAll elems + uptoBulkAll spare + 1
  | .agg parts => uptoBulkAll parts + 1
  | .iface _ d => uptoBulk d + 1
  | .map entries => uptoBulkEntries entries + 1
  | .held _ => 1
def uptoBulkAll {H : Type} : List (DataW H) → Nat
  | [] => 0
  | d :: r => uptoBulk d + uptoBulkAll r
def uptoBulkEntries {H : Type} : List (Lit × DataW H) → Nat
  | [] => 0
  | x :: r => uptoBulkEntry x + uptoBulkEntries r
def uptoBulkEntry {H : Type} : Lit × DataW H → Nat
  | (.string bytes, d) => bytes.length + uptoBulk d + 1
  | (_, d) => uptoBulk d + 1
 end
def uptoSmall : (H : Type) → List (DataW H) → Bool := fun _ ds => decide (uptoBulkAll ds ≤ 1048576)
def OpenSpec.upto (s : _root_.Go.ChangeSpec) : _root_.Go.OpenSpec := { _root_.Go.OpenSpec.ofChange s with cond := some uptoSmall }

/-- 'roundtablelaw01.ProcsetLists', WHERE WHAT IT READS IS OF BULK AT MOST 1048576: true; the input reads as it did. -/
def procsetListsUptoRow : OpenClaim := { program := "ytpdlnijdcgcfbaadoor", sum := "054e908bb42f71a6bc0723335a3739fd09665a32854b5ccb805bc1de48066667", func := "roundtable/roundtablelaw01.ProcsetLists", spec := "procsetLists", inPlace := ["internal/abi.NoEscape", "internal/bytealg.MakeNoZero", "internal/bytealg.CountString", "internal/bytealg.IndexByteString", "internal/bytealg.IndexString"], unfollowed := true, recurses := true, named := ["math/bits.deBruijn32tab", "math/bits.deBruijn64tab", "internal/strconv.uint64pow10", "unicode/utf8.first", "unicode/utf8.acceptRanges", "internal/bytealg.MaxLen"], plainKeys := false, apart := false, laid := [("math/bits.deBruijn32tab", laid_math_bits_deBruijn32tab), ("math/bits.deBruijn64tab", laid_math_bits_deBruijn64tab), ("internal/strconv.uint64pow10", laid_internal_strconv_uint64pow10), ("unicode/utf8.acceptRanges", laid_unicode_utf8_acceptRanges), ("unicode/utf8.first", laid_unicode_utf8_first)], narrowed := true }
def ProcsetListsUptoSaid : Prop := procsetListsUptoRow.holds Tryd.pinned (OpenSpec.upto procsetListsSpec)

/-- 'roundtablelaw01.ProcsetCollects', WHERE WHAT IT READS IS OF BULK AT MOST 1048576: true; the input reads as it did. -/
def procsetCollectsUptoRow : OpenClaim := { program := "ytpdlnijdcgcfbaadoor", sum := "054e908bb42f71a6bc0723335a3739fd09665a32854b5ccb805bc1de48066667", func := "roundtable/roundtablelaw01.ProcsetCollects", spec := "procsetCollects", inPlace := ["internal/abi.NoEscape", "internal/bytealg.MakeNoZero", "internal/bytealg.CountString", "internal/bytealg.IndexByteString", "internal/bytealg.IndexString"], unfollowed := true, recurses := true, named := ["math/bits.deBruijn32tab", "math/bits.deBruijn64tab", "internal/strconv.uint64pow10", "unicode/utf8.first", "unicode/utf8.acceptRanges", "internal/bytealg.MaxLen"], plainKeys := false, apart := false, laid := [("math/bits.deBruijn32tab", laid_math_bits_deBruijn32tab), ("math/bits.deBruijn64tab", laid_math_bits_deBruijn64tab), ("internal/strconv.uint64pow10", laid_internal_strconv_uint64pow10), ("unicode/utf8.acceptRanges", laid_unicode_utf8_acceptRanges), ("unicode/utf8.first", laid_unicode_utf8_first)], narrowed := true }
def ProcsetCollectsUptoSaid : Prop := procsetCollectsUptoRow.holds Tryd.pinned (OpenSpec.upto procsetCollectsSpec)

/-- 'roundtablelaw01.ProcsetChooses', WHERE WHAT IT READS IS OF BULK AT MOST 1048576: true; the input reads as it did. -/
def procsetChoosesUptoRow : OpenClaim := { program := "ytpdlnijdcgcfbaadoor", sum := "054e908bb42f71a6bc0723335a3739fd09665a32854b5ccb805bc1de48066667", func := "roundtable/roundtablelaw01.ProcsetChooses", spec := "procsetChooses", inPlace := ["internal/abi.NoEscape", "internal/bytealg.MakeNoZero", "internal/bytealg.CountString", "internal/bytealg.IndexByteString", "internal/bytealg.IndexString"], unfollowed := true, recurses := true, named := ["math/bits.deBruijn32tab", "math/bits.deBruijn64tab", "internal/strconv.uint64pow10", "unicode/utf8.first", "unicode/utf8.acceptRanges", "internal/bytealg.MaxLen"], plainKeys := false, apart := false, laid := [("math/bits.deBruijn32tab", laid_math_bits_deBruijn32tab), ("math/bits.deBruijn64tab", laid_math_bits_deBruijn64tab), ("internal/strconv.uint64pow10", laid_internal_strconv_uint64pow10), ("unicode/utf8.acceptRanges", laid_unicode_utf8_acceptRanges), ("unicode/utf8.first", laid_unicode_utf8_first)], narrowed := true }
def ProcsetChoosesUptoSaid : Prop := procsetChoosesUptoRow.holds Tryd.pinned (OpenSpec.upto procsetChoosesSpec)

/-- 'roundtablelaw01.ProcsetReads', WHERE WHAT IT READS IS OF BULK AT MOST 1048576: true; the input reads as it did. -/
def procsetReadsUptoRow : OpenClaim := { program := "ytpdlnijdcgcfbaadoor", sum := "054e908bb42f71a6bc0723335a3739fd09665a32854b5ccb805bc1de48066667", func := "roundtable/roundtablelaw01.ProcsetReads", spec := "procsetReads", inPlace := ["internal/abi.NoEscape", "internal/bytealg.MakeNoZero", "internal/bytealg.CountString", "internal/bytealg.IndexByteString", "internal/bytealg.IndexString"], unfollowed := true, recurses := true, named := ["math/bits.deBruijn32tab", "math/bits.deBruijn64tab", "internal/strconv.uint64pow10", "unicode/utf8.first", "unicode/utf8.acceptRanges", "internal/bytealg.MaxLen"], plainKeys := false, apart := false, laid := [("math/bits.deBruijn32tab", laid_math_bits_deBruijn32tab), ("math/bits.deBruijn64tab", laid_math_bits_deBruijn64tab), ("internal/strconv.uint64pow10", laid_internal_strconv_uint64pow10), ("unicode/utf8.acceptRanges", laid_unicode_utf8_acceptRanges), ("unicode/utf8.first", laid_unicode_utf8_first)], narrowed := true }
def ProcsetReadsUptoSaid : Prop := procsetReadsUptoRow.holds Tryd.pinned (OpenSpec.upto procsetReadsSpec)

/-- 'roundtablelaw01.ProcsetReturns', WHERE WHAT IT READS IS OF BULK AT MOST 1048576: true; the input reads as it did. -/
def procsetReturnsUptoRow : OpenClaim := { program := "ytpdlnijdcgcfbaadoor", sum := "054e908bb42f71a6bc0723335a3739fd09665a32854b5ccb805bc1de48066667", func := "roundtable/roundtablelaw01.ProcsetReturns", spec := "procsetReturns", inPlace := ["internal/abi.NoEscape", "internal/bytealg.MakeNoZero", "internal/bytealg.CountString", "internal/bytealg.IndexByteString", "internal/bytealg.IndexString"], unfollowed := true, recurses := true, named := ["math/bits.deBruijn32tab", "math/bits.deBruijn64tab", "internal/strconv.uint64pow10", "unicode/utf8.first", "unicode/utf8.acceptRanges", "internal/bytealg.MaxLen"], plainKeys := false, apart := false, laid := [("math/bits.deBruijn32tab", laid_math_bits_deBruijn32tab), ("math/bits.deBruijn64tab", laid_math_bits_deBruijn64tab), ("internal/strconv.uint64pow10", laid_internal_strconv_uint64pow10), ("unicode/utf8.acceptRanges", laid_unicode_utf8_acceptRanges), ("unicode/utf8.first", laid_unicode_utf8_first)], narrowed := true }
def ProcsetReturnsUptoSaid : Prop := procsetReturnsUptoRow.holds Tryd.pinned (OpenSpec.upto procsetReturnsSpec)

/-- 'roundtablelaw01.ProcsetCounts', WHERE WHAT IT READS IS OF BULK AT MOST 1048576: true; the input reads as it did. -/
def procsetCountsUptoRow : OpenClaim := { program := "ytpdlnijdcgcfbaadoor", sum := "054e908bb42f71a6bc0723335a3739fd09665a32854b5ccb805bc1de48066667", func := "roundtable/roundtablelaw01.ProcsetCounts", spec := "procsetCounts", inPlace := ["internal/abi.NoEscape", "internal/bytealg.MakeNoZero", "internal/bytealg.CountString", "internal/bytealg.IndexByteString", "internal/bytealg.IndexString"], unfollowed := true, recurses := true, named := ["math/bits.deBruijn32tab", "math/bits.deBruijn64tab", "internal/strconv.uint64pow10", "unicode/utf8.first", "unicode/utf8.acceptRanges", "internal/bytealg.MaxLen"], plainKeys := false, apart := false, laid := [("math/bits.deBruijn32tab", laid_math_bits_deBruijn32tab), ("math/bits.deBruijn64tab", laid_math_bits_deBruijn64tab), ("internal/strconv.uint64pow10", laid_internal_strconv_uint64pow10), ("unicode/utf8.acceptRanges", laid_unicode_utf8_acceptRanges), ("unicode/utf8.first", laid_unicode_utf8_first)], narrowed := true }
def ProcsetCountsUptoSaid : Prop := procsetCountsUptoRow.holds Tryd.pinned (OpenSpec.upto procsetCountsSpec)

/-- 'roundtablelaw01.ProcsetMirrors', WHERE WHAT IT READS IS OF BULK AT MOST 1048576: true; the input reads as it did. -/
def procsetMirrorsUptoRow : OpenClaim := { program := "ytpdlnijdcgcfbaadoor", sum := "054e908bb42f71a6bc0723335a3739fd09665a32854b5ccb805bc1de48066667", func := "roundtable/roundtablelaw01.ProcsetMirrors", spec := "procsetMirrors", inPlace := ["internal/abi.NoEscape", "internal/bytealg.MakeNoZero", "internal/bytealg.CountString", "internal/bytealg.IndexByteString", "internal/bytealg.IndexString"], unfollowed := true, recurses := true, named := ["math/bits.deBruijn32tab", "math/bits.deBruijn64tab", "internal/strconv.uint64pow10", "unicode/utf8.first", "unicode/utf8.acceptRanges", "internal/bytealg.MaxLen"], plainKeys := false, apart := false, laid := [("math/bits.deBruijn32tab", laid_math_bits_deBruijn32tab), ("math/bits.deBruijn64tab", laid_math_bits_deBruijn64tab), ("internal/strconv.uint64pow10", laid_internal_strconv_uint64pow10), ("unicode/utf8.acceptRanges", laid_unicode_utf8_acceptRanges), ("unicode/utf8.first", laid_unicode_utf8_first)], narrowed := true }
def ProcsetMirrorsUptoSaid : Prop := procsetMirrorsUptoRow.holds Tryd.pinned (OpenSpec.upto procsetMirrorsSpec)

/-- 'roundtablelaw02.PermutationChecks', WHERE WHAT IT READS IS OF BULK AT MOST 1048576: true; the input reads as it did. -/
def permutationChecksUptoRow : OpenClaim := { program := "ytpdlnijdcgcfbaadoor", sum := "054e908bb42f71a6bc0723335a3739fd09665a32854b5ccb805bc1de48066667", func := "roundtable/roundtablelaw02.PermutationChecks", spec := "permutationChecks", unfollowed := true, recurses := true, named := ["internal/strconv.uint64pow10", "math/bits.deBruijn32tab", "math/bits.deBruijn64tab"], plainKeys := false, apart := false, laid := [("math/bits.deBruijn32tab", laid_math_bits_deBruijn32tab), ("math/bits.deBruijn64tab", laid_math_bits_deBruijn64tab), ("internal/strconv.uint64pow10", laid_internal_strconv_uint64pow10)], narrowed := true }
def PermutationChecksUptoSaid : Prop := permutationChecksUptoRow.holds Tryd.pinned (OpenSpec.upto permutationChecksSpec)

/-- 'roundtablelaw02.PermutationComposes', WHERE WHAT IT READS IS OF BULK AT MOST 1048576: true; the input reads as it did. -/
def permutationComposesUptoRow : OpenClaim := { program := "ytpdlnijdcgcfbaadoor", sum := "054e908bb42f71a6bc0723335a3739fd09665a32854b5ccb805bc1de48066667", func := "roundtable/roundtablelaw02.PermutationComposes", spec := "permutationComposes", unfollowed := true, recurses := true, named := ["internal/strconv.uint64pow10", "math/bits.deBruijn32tab", "math/bits.deBruijn64tab"], plainKeys := false, apart := false, laid := [("math/bits.deBruijn32tab", laid_math_bits_deBruijn32tab), ("math/bits.deBruijn64tab", laid_math_bits_deBruijn64tab), ("internal/strconv.uint64pow10", laid_internal_strconv_uint64pow10)], narrowed := true }
def PermutationComposesUptoSaid : Prop := permutationComposesUptoRow.holds Tryd.pinned (OpenSpec.upto permutationComposesSpec)

/-- 'roundtablelaw02.PermutationActs', WHERE WHAT IT READS IS OF BULK AT MOST 1048576: true; the input reads as it did. -/
def permutationActsUptoRow : OpenClaim := { program := "ytpdlnijdcgcfbaadoor", sum := "054e908bb42f71a6bc0723335a3739fd09665a32854b5ccb805bc1de48066667", func := "roundtable/roundtablelaw02.PermutationActs", spec := "permutationActs", unfollowed := true, recurses := true, named := ["internal/strconv.uint64pow10", "math/bits.deBruijn32tab", "math/bits.deBruijn64tab"], plainKeys := false, apart := false, laid := [("math/bits.deBruijn32tab", laid_math_bits_deBruijn32tab), ("math/bits.deBruijn64tab", laid_math_bits_deBruijn64tab), ("internal/strconv.uint64pow10", laid_internal_strconv_uint64pow10)], narrowed := true }
def PermutationActsUptoSaid : Prop := permutationActsUptoRow.holds Tryd.pinned (OpenSpec.upto permutationActsSpec)

/-- 'roundtablelaw02.PermutationGenerates', WHERE WHAT IT READS IS OF BULK AT MOST 1048576: true; the input reads as it did. -/
def permutationGeneratesUptoRow : OpenClaim := { program := "ytpdlnijdcgcfbaadoor", sum := "054e908bb42f71a6bc0723335a3739fd09665a32854b5ccb805bc1de48066667", func := "roundtable/roundtablelaw02.PermutationGenerates", spec := "permutationGenerates", unfollowed := true, recurses := true, named := ["internal/strconv.uint64pow10", "math/bits.deBruijn32tab", "math/bits.deBruijn64tab"], plainKeys := false, apart := false, laid := [("math/bits.deBruijn32tab", laid_math_bits_deBruijn32tab), ("math/bits.deBruijn64tab", laid_math_bits_deBruijn64tab), ("internal/strconv.uint64pow10", laid_internal_strconv_uint64pow10)], narrowed := true }
def PermutationGeneratesUptoSaid : Prop := permutationGeneratesUptoRow.holds Tryd.pinned (OpenSpec.upto permutationGeneratesSpec)

/-- 'roundtablelaw02.PermutationTexts', WHERE WHAT IT READS IS OF BULK AT MOST 1048576: true; the input reads as it did. -/
def permutationTextsUptoRow : OpenClaim := { program := "ytpdlnijdcgcfbaadoor", sum := "054e908bb42f71a6bc0723335a3739fd09665a32854b5ccb805bc1de48066667", func := "roundtable/roundtablelaw02.PermutationTexts", spec := "permutationTexts", unfollowed := true, recurses := true, named := ["internal/strconv.uint64pow10", "math/bits.deBruijn32tab", "math/bits.deBruijn64tab"], plainKeys := false, apart := false, laid := [("math/bits.deBruijn32tab", laid_math_bits_deBruijn32tab), ("math/bits.deBruijn64tab", laid_math_bits_deBruijn64tab), ("internal/strconv.uint64pow10", laid_internal_strconv_uint64pow10)], narrowed := true }
def PermutationTextsUptoSaid : Prop := permutationTextsUptoRow.holds Tryd.pinned (OpenSpec.upto permutationTextsSpec)

end Rows
end Go.Proofs.YtpdlnijdcgcfbaaDoor
