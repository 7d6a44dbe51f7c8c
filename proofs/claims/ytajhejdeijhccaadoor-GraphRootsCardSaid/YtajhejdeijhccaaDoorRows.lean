/-
  NARROWER THAN 'FOR EVERY INPUT', by the rows' own cells (each row's printed sentence says how): GraphChecks: laid · GraphComposes: laid · GraphPermutes: laid · GraphMeasures: laid · GraphReads: laid · GraphAssociates: laid · GraphRenames: laid · GraphRoots: laid · GraphOrders: laid.
  DERIVED. THE GIVEN ROWS OF THIS SEAT. 9 by the template 'for every input the law returns true; each argument reads behind the call as it read before'; 0 by the template 'total and deterministic' (their statements: YtajhejdeijhccaaDoorTotals.lean).
  GIVEN WITH THE SEED: the statements are not yours to turn. If you find one false, say at which input.
  Laid BY PROGRAM, IN A SANDBOX (cutbox-rows.mjs): the forced cells as the released guide's own fill.sh prints them over the translation fda78d4cbc5f6d83… (all of the seat's roots in one cut). By AI agents, Wed Nov 11 2026. No macro, syntax, notation, axiom, sorry.
-/
import Derived.Test.YtajhejdeijhccaaDoorChecked
import GoSem.PinnedTables
import GoSem.Claim
import GoSem.ClaimJoined
import GoSem.ClaimMapViews
import Derived.JoinedTies
import Derived.KernelRfl
namespace Go.Proofs.YtajhejdeijhccaaDoor
/- THE CELL 'sum', in the pinned program and in every row, IS THE sha256 OF THE DUMP (.gsa) THAT YtajhejdeijhccaaDoorProg.lean LOADS. Nothing in Lean hashes anything: it is a label: what it is worth is what the hold of that sum in a sandbox is worth. -/
noncomputable def Tryd.pinned : Pinned := { name := "ytajhejdeijhccaadoor", sum := "fda78d4cbc5f6d83ed6fd7e8f442fa266fe058bd2dc22de113da5010ee7cff20", checked := Tryd.checked }
namespace Rows
def none {H : Type} : Left H := { results := [], args := [] }

/- WHAT THE LISTED PACKAGE-LEVEL VARIABLES READ AS WHEN THE CALL BEGINS. Each datum BY PROGRAM (the guide's laid-datum.mjs) off the statement by which the dump's own 'gosem.cut.vars' lays the variable. In a bare row this is a premise. The card (YtajhejdeijhccaaDoorCards.lean) ties it to the program's text. -/
def laid_unicode_utf8_acceptRanges {H : Type} : DataW H := .agg [.agg [.lit (.int .u8 128), .lit (.int .u8 191)], .agg [.lit (.int .u8 160), .lit (.int .u8 191)], .agg [.lit (.int .u8 128), .lit (.int .u8 159)], .agg [.lit (.int .u8 144), .lit (.int .u8 191)], .agg [.lit (.int .u8 128), .lit (.int .u8 143)], .agg [.lit (.int .u8 0), .lit (.int .u8 0)], .agg [.lit (.int .u8 0), .lit (.int .u8 0)], .agg [.lit (.int .u8 0), .lit (.int .u8 0)], .agg [.lit (.int .u8 0), .lit (.int .u8 0)], .agg [.lit (.int .u8 0), .lit (.int .u8 0)], .agg [.lit (.int .u8 0), .lit (.int .u8 0)], .agg [.lit (.int .u8 0), .lit (.int .u8 0)], .agg [.lit (.int .u8 0), .lit (.int .u8 0)], .agg [.lit (.int .u8 0), .lit (.int .u8 0)], .agg [.lit (.int .u8 0), .lit (.int .u8 0)], .agg [.lit (.int .u8 0), .lit (.int .u8 0)]]
/-- One of Go's own tables, pinned by name: the form's constant. -/
def laid_unicode_utf8_first : DataW Unit := Go.Pinned.utf8First

/-- 'roundtablelaw03.GraphChecks': WHATEVER THE INPUT: true; the input reads as it did. -/
def graphChecksSpec : ChangeSpec := { name := "graphChecks", fn := fun _ => fun
  | [d1, d2, d3] => { results := [.lit (.bool true)], args := [d1, d2, d3] }
  | _ => none }
def graphChecksRow : OpenClaim := { program := "ytajhejdeijhccaadoor", sum := "fda78d4cbc5f6d83ed6fd7e8f442fa266fe058bd2dc22de113da5010ee7cff20", func := "roundtable/roundtablelaw03.GraphChecks", spec := "graphChecks", inPlace := ["internal/bytealg.CountString", "internal/bytealg.IndexByteString", "internal/bytealg.IndexString", "internal/abi.NoEscape", "internal/bytealg.MakeNoZero"], unfollowed := true, recurses := true, named := ["unicode/utf8.first", "unicode/utf8.acceptRanges", "internal/bytealg.MaxLen"], apart := false, laid := [("unicode/utf8.acceptRanges", laid_unicode_utf8_acceptRanges), ("unicode/utf8.first", laid_unicode_utf8_first)] }
def GraphChecksSaid : Prop := graphChecksRow.holds Tryd.pinned (OpenSpec.ofChange graphChecksSpec)

/-- ITS FALSE NEIGHBOUR: 'it returns false'. Refute it at one input. -/
def graphChecksWrong : ChangeSpec := { name := "graphChecks", fn := fun _ => fun
  | [d1, d2, d3] => { results := [.lit (.bool false)], args := [d1, d2, d3] }
  | _ => none }
def GraphChecksWrongFalsely : Prop := graphChecksRow.holds Tryd.pinned (OpenSpec.ofChange graphChecksWrong)

/-- 'roundtablelaw03.GraphComposes': WHATEVER THE INPUT: true; the input reads as it did. -/
def graphComposesSpec : ChangeSpec := { name := "graphComposes", fn := fun _ => fun
  | [d1, d2] => { results := [.lit (.bool true)], args := [d1, d2] }
  | _ => none }
def graphComposesRow : OpenClaim := { program := "ytajhejdeijhccaadoor", sum := "fda78d4cbc5f6d83ed6fd7e8f442fa266fe058bd2dc22de113da5010ee7cff20", func := "roundtable/roundtablelaw03.GraphComposes", spec := "graphComposes", inPlace := ["internal/bytealg.CountString", "internal/bytealg.IndexByteString", "internal/bytealg.IndexString", "internal/abi.NoEscape", "internal/bytealg.MakeNoZero"], unfollowed := true, recurses := true, named := ["unicode/utf8.first", "unicode/utf8.acceptRanges", "internal/bytealg.MaxLen"], apart := false, laid := [("unicode/utf8.acceptRanges", laid_unicode_utf8_acceptRanges), ("unicode/utf8.first", laid_unicode_utf8_first)] }
def GraphComposesSaid : Prop := graphComposesRow.holds Tryd.pinned (OpenSpec.ofChange graphComposesSpec)

/-- ITS FALSE NEIGHBOUR: 'it returns false'. Refute it at one input. -/
def graphComposesWrong : ChangeSpec := { name := "graphComposes", fn := fun _ => fun
  | [d1, d2] => { results := [.lit (.bool false)], args := [d1, d2] }
  | _ => none }
def GraphComposesWrongFalsely : Prop := graphComposesRow.holds Tryd.pinned (OpenSpec.ofChange graphComposesWrong)

/-- 'roundtablelaw03.GraphPermutes': WHATEVER THE INPUT: true; the input reads as it did. -/
def graphPermutesSpec : ChangeSpec := { name := "graphPermutes", fn := fun _ => fun
  | [d1, d2] => { results := [.lit (.bool true)], args := [d1, d2] }
  | _ => none }
def graphPermutesRow : OpenClaim := { program := "ytajhejdeijhccaadoor", sum := "fda78d4cbc5f6d83ed6fd7e8f442fa266fe058bd2dc22de113da5010ee7cff20", func := "roundtable/roundtablelaw03.GraphPermutes", spec := "graphPermutes", inPlace := ["internal/bytealg.CountString", "internal/bytealg.IndexByteString", "internal/bytealg.IndexString", "internal/abi.NoEscape", "internal/bytealg.MakeNoZero"], unfollowed := true, recurses := true, named := ["unicode/utf8.first", "unicode/utf8.acceptRanges", "internal/bytealg.MaxLen"], apart := false, laid := [("unicode/utf8.acceptRanges", laid_unicode_utf8_acceptRanges), ("unicode/utf8.first", laid_unicode_utf8_first)] }
def GraphPermutesSaid : Prop := graphPermutesRow.holds Tryd.pinned (OpenSpec.ofChange graphPermutesSpec)

/-- ITS FALSE NEIGHBOUR: 'it returns false'. Refute it at one input. -/
def graphPermutesWrong : ChangeSpec := { name := "graphPermutes", fn := fun _ => fun
  | [d1, d2] => { results := [.lit (.bool false)], args := [d1, d2] }
  | _ => none }
def GraphPermutesWrongFalsely : Prop := graphPermutesRow.holds Tryd.pinned (OpenSpec.ofChange graphPermutesWrong)

/-- 'roundtablelaw03.GraphMeasures': WHATEVER THE INPUT: true; the input reads as it did. -/
def graphMeasuresSpec : ChangeSpec := { name := "graphMeasures", fn := fun _ => fun
  | [d1, d2] => { results := [.lit (.bool true)], args := [d1, d2] }
  | _ => none }
def graphMeasuresRow : OpenClaim := { program := "ytajhejdeijhccaadoor", sum := "fda78d4cbc5f6d83ed6fd7e8f442fa266fe058bd2dc22de113da5010ee7cff20", func := "roundtable/roundtablelaw03.GraphMeasures", spec := "graphMeasures", inPlace := ["internal/bytealg.CountString", "internal/bytealg.IndexByteString", "internal/bytealg.IndexString", "internal/abi.NoEscape", "internal/bytealg.MakeNoZero"], unfollowed := true, recurses := true, named := ["unicode/utf8.first", "unicode/utf8.acceptRanges", "internal/bytealg.MaxLen"], apart := false, laid := [("unicode/utf8.acceptRanges", laid_unicode_utf8_acceptRanges), ("unicode/utf8.first", laid_unicode_utf8_first)] }
def GraphMeasuresSaid : Prop := graphMeasuresRow.holds Tryd.pinned (OpenSpec.ofChange graphMeasuresSpec)

/-- ITS FALSE NEIGHBOUR: 'it returns false'. Refute it at one input. -/
def graphMeasuresWrong : ChangeSpec := { name := "graphMeasures", fn := fun _ => fun
  | [d1, d2] => { results := [.lit (.bool false)], args := [d1, d2] }
  | _ => none }
def GraphMeasuresWrongFalsely : Prop := graphMeasuresRow.holds Tryd.pinned (OpenSpec.ofChange graphMeasuresWrong)

/-- 'roundtablelaw03.GraphReads': WHATEVER THE INPUT: true; the input reads as it did. -/
def graphReadsSpec : ChangeSpec := { name := "graphReads", fn := fun _ => fun
  | [d1, d2, d3] => { results := [.lit (.bool true)], args := [d1, d2, d3] }
  | _ => none }
def graphReadsRow : OpenClaim := { program := "ytajhejdeijhccaadoor", sum := "fda78d4cbc5f6d83ed6fd7e8f442fa266fe058bd2dc22de113da5010ee7cff20", func := "roundtable/roundtablelaw03.GraphReads", spec := "graphReads", inPlace := ["internal/bytealg.CountString", "internal/bytealg.IndexByteString", "internal/bytealg.IndexString", "internal/abi.NoEscape", "internal/bytealg.MakeNoZero"], unfollowed := true, recurses := true, named := ["unicode/utf8.first", "unicode/utf8.acceptRanges", "internal/bytealg.MaxLen"], apart := false, laid := [("unicode/utf8.acceptRanges", laid_unicode_utf8_acceptRanges), ("unicode/utf8.first", laid_unicode_utf8_first)] }
def GraphReadsSaid : Prop := graphReadsRow.holds Tryd.pinned (OpenSpec.ofChange graphReadsSpec)

/-- ITS FALSE NEIGHBOUR: 'it returns false'. Refute it at one input. -/
def graphReadsWrong : ChangeSpec := { name := "graphReads", fn := fun _ => fun
  | [d1, d2, d3] => { results := [.lit (.bool false)], args := [d1, d2, d3] }
  | _ => none }
def GraphReadsWrongFalsely : Prop := graphReadsRow.holds Tryd.pinned (OpenSpec.ofChange graphReadsWrong)

/-- 'roundtablelaw03.GraphAssociates': WHATEVER THE INPUT: true; the input reads as it did. -/
def graphAssociatesSpec : ChangeSpec := { name := "graphAssociates", fn := fun _ => fun
  | [d] => { results := [.lit (.bool true)], args := [d] }
  | _ => none }
def graphAssociatesRow : OpenClaim := { program := "ytajhejdeijhccaadoor", sum := "fda78d4cbc5f6d83ed6fd7e8f442fa266fe058bd2dc22de113da5010ee7cff20", func := "roundtable/roundtablelaw03.GraphAssociates", spec := "graphAssociates", inPlace := ["internal/bytealg.CountString", "internal/bytealg.IndexByteString", "internal/bytealg.IndexString", "internal/abi.NoEscape", "internal/bytealg.MakeNoZero"], unfollowed := true, recurses := true, named := ["unicode/utf8.first", "unicode/utf8.acceptRanges", "internal/bytealg.MaxLen"], apart := false, laid := [("unicode/utf8.acceptRanges", laid_unicode_utf8_acceptRanges), ("unicode/utf8.first", laid_unicode_utf8_first)] }
def GraphAssociatesSaid : Prop := graphAssociatesRow.holds Tryd.pinned (OpenSpec.ofChange graphAssociatesSpec)

/-- ITS FALSE NEIGHBOUR: 'it returns false'. Refute it at one input. -/
def graphAssociatesWrong : ChangeSpec := { name := "graphAssociates", fn := fun _ => fun
  | [d] => { results := [.lit (.bool false)], args := [d] }
  | _ => none }
def GraphAssociatesWrongFalsely : Prop := graphAssociatesRow.holds Tryd.pinned (OpenSpec.ofChange graphAssociatesWrong)

/-- 'roundtablelaw03.GraphRenames': WHATEVER THE INPUT: true; the input reads as it did. -/
def graphRenamesSpec : ChangeSpec := { name := "graphRenames", fn := fun _ => fun
  | [d1, d2, d3] => { results := [.lit (.bool true)], args := [d1, d2, d3] }
  | _ => none }
def graphRenamesRow : OpenClaim := { program := "ytajhejdeijhccaadoor", sum := "fda78d4cbc5f6d83ed6fd7e8f442fa266fe058bd2dc22de113da5010ee7cff20", func := "roundtable/roundtablelaw03.GraphRenames", spec := "graphRenames", inPlace := ["internal/bytealg.CountString", "internal/bytealg.IndexByteString", "internal/bytealg.IndexString", "internal/abi.NoEscape", "internal/bytealg.MakeNoZero"], unfollowed := true, recurses := true, named := ["unicode/utf8.first", "unicode/utf8.acceptRanges", "internal/bytealg.MaxLen"], apart := false, laid := [("unicode/utf8.acceptRanges", laid_unicode_utf8_acceptRanges), ("unicode/utf8.first", laid_unicode_utf8_first)] }
def GraphRenamesSaid : Prop := graphRenamesRow.holds Tryd.pinned (OpenSpec.ofChange graphRenamesSpec)

/-- ITS FALSE NEIGHBOUR: 'it returns false'. Refute it at one input. -/
def graphRenamesWrong : ChangeSpec := { name := "graphRenames", fn := fun _ => fun
  | [d1, d2, d3] => { results := [.lit (.bool false)], args := [d1, d2, d3] }
  | _ => none }
def GraphRenamesWrongFalsely : Prop := graphRenamesRow.holds Tryd.pinned (OpenSpec.ofChange graphRenamesWrong)

/-- 'roundtablelaw03.GraphRoots': WHATEVER THE INPUT: true; the input reads as it did. -/
def graphRootsSpec : ChangeSpec := { name := "graphRoots", fn := fun _ => fun
  | [d] => { results := [.lit (.bool true)], args := [d] }
  | _ => none }
def graphRootsRow : OpenClaim := { program := "ytajhejdeijhccaadoor", sum := "fda78d4cbc5f6d83ed6fd7e8f442fa266fe058bd2dc22de113da5010ee7cff20", func := "roundtable/roundtablelaw03.GraphRoots", spec := "graphRoots", inPlace := ["internal/bytealg.CountString", "internal/bytealg.IndexByteString", "internal/bytealg.IndexString", "internal/abi.NoEscape", "internal/bytealg.MakeNoZero"], unfollowed := true, recurses := true, named := ["unicode/utf8.first", "unicode/utf8.acceptRanges", "internal/bytealg.MaxLen"], apart := false, laid := [("unicode/utf8.acceptRanges", laid_unicode_utf8_acceptRanges), ("unicode/utf8.first", laid_unicode_utf8_first)] }
def GraphRootsSaid : Prop := graphRootsRow.holds Tryd.pinned (OpenSpec.ofChange graphRootsSpec)

/-- ITS FALSE NEIGHBOUR: 'it returns false'. Refute it at one input. -/
def graphRootsWrong : ChangeSpec := { name := "graphRoots", fn := fun _ => fun
  | [d] => { results := [.lit (.bool false)], args := [d] }
  | _ => none }
def GraphRootsWrongFalsely : Prop := graphRootsRow.holds Tryd.pinned (OpenSpec.ofChange graphRootsWrong)

/-- 'roundtablelaw03.GraphOrders': WHATEVER THE INPUT: true; the input reads as it did. -/
def graphOrdersSpec : ChangeSpec := { name := "graphOrders", fn := fun _ => fun
  | [d] => { results := [.lit (.bool true)], args := [d] }
  | _ => none }
def graphOrdersRow : OpenClaim := { program := "ytajhejdeijhccaadoor", sum := "fda78d4cbc5f6d83ed6fd7e8f442fa266fe058bd2dc22de113da5010ee7cff20", func := "roundtable/roundtablelaw03.GraphOrders", spec := "graphOrders", inPlace := ["internal/bytealg.CountString", "internal/bytealg.IndexByteString", "internal/bytealg.IndexString", "internal/abi.NoEscape", "internal/bytealg.MakeNoZero"], unfollowed := true, recurses := true, named := ["unicode/utf8.first", "unicode/utf8.acceptRanges", "internal/bytealg.MaxLen"], apart := false, laid := [("unicode/utf8.acceptRanges", laid_unicode_utf8_acceptRanges), ("unicode/utf8.first", laid_unicode_utf8_first)] }
def GraphOrdersSaid : Prop := graphOrdersRow.holds Tryd.pinned (OpenSpec.ofChange graphOrdersSpec)

/-- ITS FALSE NEIGHBOUR: 'it returns false'. Refute it at one input. -/
def graphOrdersWrong : ChangeSpec := { name := "graphOrders", fn := fun _ => fun
  | [d] => { results := [.lit (.bool false)], args := [d] }
  | _ => none }
def GraphOrdersWrongFalsely : Prop := graphOrdersRow.holds Tryd.pinned (OpenSpec.ofChange graphOrdersWrong)

/- THE SECOND FORM. 'bulk': how many values and letters a reading holds, each counted each time it is reached (what is shared counts as often as it is met; a slice's spare places count too). A statement '..UptoSaid' is the law's where the arguments, and the package variables that the reading takes, are together of bulk at most 1048576: NARROWER than '..Said'. Prove '..Said' where nothing that the law and all that it calls make is longer than what came in: it says more and counts as full. Else prove '..UptoSaid'. A law counts once. -/
mutual
def uptoBulk {H : Type} : DataW H → Nat
  | .lit (.string bytes) => bytes.length + 1
  | .lit _ => 1
  | .nil => 1
  | .ptr d => uptoBulk d + 1
  | .slice elems spare => uptoBulkAll elems + uptoBulkAll spare + 1
  | .agg parts => uptoBulkAll parts + 1
  | .iface _ d => uptoBulk d + 1
  | .map entries => uptoBulkEntries entries + 1
  | .held _ => 1
def uptoBulkAll {H : Type} : List (DataW H) → Nat
  | [] => 0
  | d :: r => uptoBulk d + uptoBulkAll r
def uptoBulkEntries {H : Type} : List (Lit × DataW H) → Nat
  | [] => 0
  | x :: r => uptoBulkEntry x + uptoBulkEntries r
def uptoBulkEntry {H : Type} : Lit × DataW H → Nat
  | (.string bytes, d) => bytes.length + uptoBulk d + 1
  | (_, d) => uptoBulk d + 1
 end
def uptoSmall : (H : Type) → List (DataW H) → Bool := fun _ ds => decide (uptoBulkAll ds ≤ 1048576)
def OpenSpec.upto (s : _root_.Go.ChangeSpec) : _root_.Go.OpenSpec := { _root_.Go.OpenSpec.ofChange s with cond := some uptoSmall }

/-- 'roundtablelaw03.GraphChecks', WHERE WHAT IT READS IS OF BULK AT MOST 1048576: true; the input reads as it did. -/
def graphChecksUptoRow : OpenClaim := { program := "ytajhejdeijhccaadoor", sum := "fda78d4cbc5f6d83ed6fd7e8f442fa266fe058bd2dc22de113da5010ee7cff20", func := "roundtable/roundtablelaw03.GraphChecks", spec := "graphChecks", inPlace := ["internal/bytealg.CountString", "internal/bytealg.IndexByteString", "internal/bytealg.IndexString", "internal/abi.NoEscape", "internal/bytealg.MakeNoZero"], unfollowed := true, recurses := true, named := ["unicode/utf8.first", "unicode/utf8.acceptRanges", "internal/bytealg.MaxLen"], apart := false, laid := [("unicode/utf8.acceptRanges", laid_unicode_utf8_acceptRanges), ("unicode/utf8.first", laid_unicode_utf8_first)], narrowed := true }
def GraphChecksUptoSaid : Prop := graphChecksUptoRow.holds Tryd.pinned (OpenSpec.upto graphChecksSpec)

/-- 'roundtablelaw03.GraphComposes', WHERE WHAT IT READS IS OF BULK AT MOST 1048576: true; the input reads as it did. -/
def graphComposesUptoRow : OpenClaim := { program := "ytajhejdeijhccaadoor", sum := "fda78d4cbc5f6d83ed6fd7e8f442fa266fe058bd2dc22de113da5010ee7cff20", func := "roundtable/roundtablelaw03.GraphComposes", spec := "graphComposes", inPlace := ["internal/bytealg.CountString", "internal/bytealg.IndexByteString", "internal/bytealg.IndexString", "internal/abi.NoEscape", "internal/bytealg.MakeNoZero"], unfollowed := true, recurses := true, named := ["unicode/utf8.first", "unicode/utf8.acceptRanges", "internal/bytealg.MaxLen"], apart := false, laid := [("unicode/utf8.acceptRanges", laid_unicode_utf8_acceptRanges), ("unicode/utf8.first", laid_unicode_utf8_first)], narrowed := true }
def GraphComposesUptoSaid : Prop := graphComposesUptoRow.holds Tryd.pinned (OpenSpec.upto graphComposesSpec)

/-- 'roundtablelaw03.GraphPermutes', WHERE WHAT IT READS IS OF BULK AT MOST 1048576: true; the input reads as it did. -/
def graphPermutesUptoRow : OpenClaim := { program := "ytajhejdeijhccaadoor", sum := "fda78d4cbc5f6d83ed6fd7e8f442fa266fe058bd2dc22de113da5010ee7cff20", func := "roundtable/roundtablelaw03.GraphPermutes", spec := "graphPermutes", inPlace := ["internal/bytealg.CountString", "internal/bytealg.IndexByteString", "internal/bytealg.IndexString", "internal/abi.NoEscape", "internal/bytealg.MakeNoZero"], unfollowed := true, recurses := true, named := ["unicode/utf8.first", "unicode/utf8.acceptRanges", "internal/bytealg.MaxLen"], apart := false, laid := [("unicode/utf8.acceptRanges", laid_unicode_utf8_acceptRanges), ("unicode/utf8.first", laid_unicode_utf8_first)], narrowed := true }
def GraphPermutesUptoSaid : Prop := graphPermutesUptoRow.holds Tryd.pinned (OpenSpec.upto graphPermutesSpec)

/-- 'roundtablelaw03.GraphMeasures', WHERE WHAT IT READS IS OF BULK AT MOST 1048576: true; the input reads as it did. -/
def graphMeasuresUptoRow : OpenClaim := { program := "ytajhejdeijhccaadoor", sum := "fda78d4cbc5f6d83ed6fd7e8f442fa266fe058bd2dc22de113da5010ee7cff20", func := "roundtable/roundtablelaw03.GraphMeasures", spec := "graphMeasures", inPlace := ["internal/bytealg.CountString", "internal/bytealg.IndexByteString", "internal/bytealg.IndexString", "internal/abi.NoEscape", "internal/bytealg.MakeNoZero"], unfollowed := true, recurses := true, named := ["unicode/utf8.first", "unicode/utf8.acceptRanges", "internal/bytealg.MaxLen"], apart := false, laid := [("unicode/utf8.acceptRanges", laid_unicode_utf8_acceptRanges), ("unicode/utf8.first", laid_unicode_utf8_first)], narrowed := true }
def GraphMeasuresUptoSaid : Prop := graphMeasuresUptoRow.holds Tryd.pinned (OpenSpec.upto graphMeasuresSpec)

/-- 'roundtablelaw03.GraphReads', WHERE WHAT IT READS IS OF BULK AT MOST 1048576: true; the input reads as it did. -/
def graphReadsUptoRow : OpenClaim := { program := "ytajhejdeijhccaadoor", sum := "fda78d4cbc5f6d83ed6fd7e8f442fa266fe058bd2dc22de113da5010ee7cff20", func := "roundtable/roundtablelaw03.GraphReads", spec := "graphReads", inPlace := ["internal/bytealg.CountString", "internal/bytealg.IndexByteString", "internal/bytealg.IndexString", "internal/abi.NoEscape", "internal/bytealg.MakeNoZero"], unfollowed := true, recurses := true, named := ["unicode/utf8.first", "unicode/utf8.acceptRanges", "internal/bytealg.MaxLen"], apart := false, laid := [("unicode/utf8.acceptRanges", laid_unicode_utf8_acceptRanges), ("unicode/utf8.first", laid_unicode_utf8_first)], narrowed := true }
def GraphReadsUptoSaid : Prop := graphReadsUptoRow.holds Tryd.pinned (OpenSpec.upto graphReadsSpec)

/-- 'roundtablelaw03.GraphAssociates', WHERE WHAT IT READS IS OF BULK AT MOST 1048576: true; the input reads as it did. -/
def graphAssociatesUptoRow : OpenClaim := { program := "ytajhejdeijhccaadoor", sum := "fda78d4cbc5f6d83ed6fd7e8f442fa266fe058bd2dc22de113da5010ee7cff20", func := "roundtable/roundtablelaw03.GraphAssociates", spec := "graphAssociates", inPlace := ["internal/bytealg.CountString", "internal/bytealg.IndexByteString", "internal/bytealg.IndexString", "internal/abi.NoEscape", "internal/bytealg.MakeNoZero"], unfollowed := true, recurses := true, named := ["unicode/utf8.first", "unicode/utf8.acceptRanges", "internal/bytealg.MaxLen"], apart := false, laid := [("unicode/utf8.acceptRanges", laid_unicode_utf8_acceptRanges), ("unicode/utf8.first", laid_unicode_utf8_first)], narrowed := true }
def GraphAssociatesUptoSaid : Prop := graphAssociatesUptoRow.holds Tryd.pinned (OpenSpec.upto graphAssociatesSpec)

/-- 'roundtablelaw03.GraphRenames', WHERE WHAT IT READS IS OF BULK AT MOST 1048576: true; the input reads as it did. -/
def graphRenamesUptoRow : OpenClaim := { program := "ytajhejdeijhccaadoor", sum := "fda78d4cbc5f6d83ed6fd7e8f442fa266fe058bd2dc22de113da5010ee7cff20", func := "roundtable/roundtablelaw03.GraphRenames", spec := "graphRenames", inPlace := ["internal/bytealg.CountString", "internal/bytealg.IndexByteString", "internal/bytealg.IndexString", "internal/abi.NoEscape", "internal/bytealg.MakeNoZero"], unfollowed := true, recurses := true, named := ["unicode/utf8.first", "unicode/utf8.acceptRanges", "internal/bytealg.MaxLen"], apart := false, laid := [("unicode/utf8.acceptRanges", laid_unicode_utf8_acceptRanges), ("unicode/utf8.first", laid_unicode_utf8_first)], narrowed := true }
def GraphRenamesUptoSaid : Prop := graphRenamesUptoRow.holds Tryd.pinned (OpenSpec.upto graphRenamesSpec)

/-- 'roundtablelaw03.GraphRoots', WHERE WHAT IT READS IS OF BULK AT MOST 1048576: true; the input reads as it did. -/
def graphRootsUptoRow : OpenClaim := { program := "ytajhejdeijhccaadoor", sum := "fda78d4cbc5f6d83ed6fd7e8f442fa266fe058bd2dc22de113da5010ee7cff20", func := "roundtable/roundtablelaw03.GraphRoots", spec := "graphRoots", inPlace := ["internal/bytealg.CountString", "internal/bytealg.IndexByteString", "internal/bytealg.IndexString", "internal/abi.NoEscape", "internal/bytealg.MakeNoZero"], unfollowed := true, recurses := true, named := ["unicode/utf8.first", "unicode/utf8.acceptRanges", "internal/bytealg.MaxLen"], apart := false, laid := [("unicode/utf8.acceptRanges", laid_unicode_utf8_acceptRanges), ("unicode/utf8.first", laid_unicode_utf8_first)], narrowed := true }
def GraphRootsUptoSaid : Prop := graphRootsUptoRow.holds Tryd.pinned (OpenSpec.upto graphRootsSpec)

/-- 'roundtablelaw03.GraphOrders', WHERE WHAT IT READS IS OF BULK AT MOST 1048576: true; the input reads as it did. -/
def graphOrdersUptoRow : OpenClaim := { program := "ytajhejdeijhccaadoor", sum := "fda78d4cbc5f6d83ed6fd7e8f442fa266fe058bd2dc22de113da5010ee7cff20", func := "roundtable/roundtablelaw03.GraphOrders", spec := "graphOrders", inPlace := ["internal/bytealg.CountString", "internal/bytealg.IndexByteString", "internal/bytealg.IndexString", "internal/abi.NoEscape", "internal/bytealg.MakeNoZero"], unfollowed := true, recurses := true, named := ["unicode/utf8.first", "unicode/utf8.acceptRanges", "internal/bytealg.MaxLen"], apart := false, laid := [("unicode/utf8.acceptRanges", laid_unicode_utf8_acceptRanges), ("unicode/utf8.first", laid_unicode_utf8_first)], narrowed := true }
def GraphOrdersUptoSaid : Prop := graphOrdersUptoRow.holds Tryd.pinned (OpenSpec.upto graphOrdersSpec)

end Rows
end Go.Proofs.YtajhejdeijhccaaDoor
