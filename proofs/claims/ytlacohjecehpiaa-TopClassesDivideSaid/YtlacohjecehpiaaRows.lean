/-
  No cell of these rows narrows 'for every input' (looked for: loops, veiled, ifaces, maps, wideKeys, modest, calm, conditions, laid).
  DERIVED. THE GIVEN ROWS OF THIS SEAT. 9 by the template 'for every input the law returns true; each argument reads behind the call as it read before'; 0 by the template 'total and deterministic' (their statements: YtlacohjecehpiaaTotals.lean).
  GIVEN WITH THE SEED: the statements are not yours to turn. If you find one false, say at which input.
  Laid BY PROGRAM, IN A SANDBOX (cutbox-rows.mjs): the forced cells as the released guide's own fill.sh prints them over the translation ddf5b6d2434c531d… (all of the seat's roots in one cut). By AI agents, Wed Nov 11 2026. No macro, syntax, notation, axiom, sorry.
-/
import Derived.Test.YtlacohjecehpiaaChecked
import GoSem.Claim
import GoSem.ClaimJoined
import GoSem.ClaimMapViews
import Derived.JoinedTies
import Derived.KernelRfl
namespace Go.Proofs.Ytlacohjecehpiaa
/- THE CELL 'sum', in the pinned program and in every row, IS THE sha256 OF THE DUMP (.gsa) THAT YtlacohjecehpiaaProg.lean LOADS. Nothing in Lean hashes anything: it is a label: what it is worth is what the hold of that sum in a sandbox is worth. -/
noncomputable def Try.pinned : Pinned := { name := "ytlacohjecehpiaa", sum := "ddf5b6d2434c531dc135e9952ec55184c871c3850c2a170634501466957ce342", checked := Try.checked }
namespace Rows
def none {H : Type} : Left H := { results := [], args := [] }

/-- 'roundtablelaw04.PartitionChecks': WHATEVER THE INPUT: true; the input reads as it did. -/
def partitionChecksSpec : ChangeSpec := { name := "partitionChecks", fn := fun _ => fun
  | [d] => { results := [.lit (.bool true)], args := [d] }
  | _ => none }
def partitionChecksRow : OpenClaim := { program := "ytlacohjecehpiaa", sum := "ddf5b6d2434c531dc135e9952ec55184c871c3850c2a170634501466957ce342", func := "roundtable/roundtablelaw04.PartitionChecks", spec := "partitionChecks", unfollowed := true, recurses := true, plainKeys := false, apart := false }
def PartitionChecksSaid : Prop := partitionChecksRow.holds Try.pinned (OpenSpec.ofChange partitionChecksSpec)

/-- ITS FALSE NEIGHBOUR: 'it returns false'. Refute it at one input. -/
def partitionChecksWrong : ChangeSpec := { name := "partitionChecks", fn := fun _ => fun
  | [d] => { results := [.lit (.bool false)], args := [d] }
  | _ => none }
def PartitionChecksWrongFalsely : Prop := partitionChecksRow.holds Try.pinned (OpenSpec.ofChange partitionChecksWrong)

/-- 'roundtablelaw04.PartitionForms': WHATEVER THE INPUT: true; the input reads as it did. -/
def partitionFormsSpec : ChangeSpec := { name := "partitionForms", fn := fun _ => fun
  | [d1, d2, d3] => { results := [.lit (.bool true)], args := [d1, d2, d3] }
  | _ => none }
def partitionFormsRow : OpenClaim := { program := "ytlacohjecehpiaa", sum := "ddf5b6d2434c531dc135e9952ec55184c871c3850c2a170634501466957ce342", func := "roundtable/roundtablelaw04.PartitionForms", spec := "partitionForms", unfollowed := true, recurses := true, plainKeys := false, apart := false }
def PartitionFormsSaid : Prop := partitionFormsRow.holds Try.pinned (OpenSpec.ofChange partitionFormsSpec)

/-- ITS FALSE NEIGHBOUR: 'it returns false'. Refute it at one input. -/
def partitionFormsWrong : ChangeSpec := { name := "partitionForms", fn := fun _ => fun
  | [d1, d2, d3] => { results := [.lit (.bool false)], args := [d1, d2, d3] }
  | _ => none }
def PartitionFormsWrongFalsely : Prop := partitionFormsRow.holds Try.pinned (OpenSpec.ofChange partitionFormsWrong)

/-- 'roundtablelaw04.PartitionCombines': WHATEVER THE INPUT: true; the input reads as it did. -/
def partitionCombinesSpec : ChangeSpec := { name := "partitionCombines", fn := fun _ => fun
  | [d1, d2] => { results := [.lit (.bool true)], args := [d1, d2] }
  | _ => none }
def partitionCombinesRow : OpenClaim := { program := "ytlacohjecehpiaa", sum := "ddf5b6d2434c531dc135e9952ec55184c871c3850c2a170634501466957ce342", func := "roundtable/roundtablelaw04.PartitionCombines", spec := "partitionCombines", unfollowed := true, recurses := true, plainKeys := false, apart := false }
def PartitionCombinesSaid : Prop := partitionCombinesRow.holds Try.pinned (OpenSpec.ofChange partitionCombinesSpec)

/-- ITS FALSE NEIGHBOUR: 'it returns false'. Refute it at one input. -/
def partitionCombinesWrong : ChangeSpec := { name := "partitionCombines", fn := fun _ => fun
  | [d1, d2] => { results := [.lit (.bool false)], args := [d1, d2] }
  | _ => none }
def PartitionCombinesWrongFalsely : Prop := partitionCombinesRow.holds Try.pinned (OpenSpec.ofChange partitionCombinesWrong)

/-- 'roundtablelaw04.PartitionRefines': WHATEVER THE INPUT: true; the input reads as it did. -/
def partitionRefinesSpec : ChangeSpec := { name := "partitionRefines", fn := fun _ => fun
  | [d1, d2] => { results := [.lit (.bool true)], args := [d1, d2] }
  | _ => none }
def partitionRefinesRow : OpenClaim := { program := "ytlacohjecehpiaa", sum := "ddf5b6d2434c531dc135e9952ec55184c871c3850c2a170634501466957ce342", func := "roundtable/roundtablelaw04.PartitionRefines", spec := "partitionRefines", unfollowed := true, recurses := true, plainKeys := false, apart := false }
def PartitionRefinesSaid : Prop := partitionRefinesRow.holds Try.pinned (OpenSpec.ofChange partitionRefinesSpec)

/-- ITS FALSE NEIGHBOUR: 'it returns false'. Refute it at one input. -/
def partitionRefinesWrong : ChangeSpec := { name := "partitionRefines", fn := fun _ => fun
  | [d1, d2] => { results := [.lit (.bool false)], args := [d1, d2] }
  | _ => none }
def PartitionRefinesWrongFalsely : Prop := partitionRefinesRow.holds Try.pinned (OpenSpec.ofChange partitionRefinesWrong)

/-- 'roundtablelaw04.PartitionLattice': WHATEVER THE INPUT: true; the input reads as it did. -/
def partitionLatticeSpec : ChangeSpec := { name := "partitionLattice", fn := fun _ => fun
  | [d1, d2] => { results := [.lit (.bool true)], args := [d1, d2] }
  | _ => none }
def partitionLatticeRow : OpenClaim := { program := "ytlacohjecehpiaa", sum := "ddf5b6d2434c531dc135e9952ec55184c871c3850c2a170634501466957ce342", func := "roundtable/roundtablelaw04.PartitionLattice", spec := "partitionLattice", unfollowed := true, recurses := true, plainKeys := false, apart := false }
def PartitionLatticeSaid : Prop := partitionLatticeRow.holds Try.pinned (OpenSpec.ofChange partitionLatticeSpec)

/-- ITS FALSE NEIGHBOUR: 'it returns false'. Refute it at one input. -/
def partitionLatticeWrong : ChangeSpec := { name := "partitionLattice", fn := fun _ => fun
  | [d1, d2] => { results := [.lit (.bool false)], args := [d1, d2] }
  | _ => none }
def PartitionLatticeWrongFalsely : Prop := partitionLatticeRow.holds Try.pinned (OpenSpec.ofChange partitionLatticeWrong)

/-- 'roundtablelaw04.PartitionGroups': WHATEVER THE INPUT: true; the input reads as it did. -/
def partitionGroupsSpec : ChangeSpec := { name := "partitionGroups", fn := fun _ => fun
  | [d1, d2, d3] => { results := [.lit (.bool true)], args := [d1, d2, d3] }
  | _ => none }
def partitionGroupsRow : OpenClaim := { program := "ytlacohjecehpiaa", sum := "ddf5b6d2434c531dc135e9952ec55184c871c3850c2a170634501466957ce342", func := "roundtable/roundtablelaw04.PartitionGroups", spec := "partitionGroups", unfollowed := true, recurses := true, plainKeys := false, apart := false }
def PartitionGroupsSaid : Prop := partitionGroupsRow.holds Try.pinned (OpenSpec.ofChange partitionGroupsSpec)

/-- ITS FALSE NEIGHBOUR: 'it returns false'. Refute it at one input. -/
def partitionGroupsWrong : ChangeSpec := { name := "partitionGroups", fn := fun _ => fun
  | [d1, d2, d3] => { results := [.lit (.bool false)], args := [d1, d2, d3] }
  | _ => none }
def PartitionGroupsWrongFalsely : Prop := partitionGroupsRow.holds Try.pinned (OpenSpec.ofChange partitionGroupsWrong)

/-- 'roundtablelaw04.PartitionOrders': WHATEVER THE INPUT: true; the input reads as it did. -/
def partitionOrdersSpec : ChangeSpec := { name := "partitionOrders", fn := fun _ => fun
  | [d1, d2] => { results := [.lit (.bool true)], args := [d1, d2] }
  | _ => none }
def partitionOrdersRow : OpenClaim := { program := "ytlacohjecehpiaa", sum := "ddf5b6d2434c531dc135e9952ec55184c871c3850c2a170634501466957ce342", func := "roundtable/roundtablelaw04.PartitionOrders", spec := "partitionOrders", unfollowed := true, recurses := true, plainKeys := false, apart := false }
def PartitionOrdersSaid : Prop := partitionOrdersRow.holds Try.pinned (OpenSpec.ofChange partitionOrdersSpec)

/-- ITS FALSE NEIGHBOUR: 'it returns false'. Refute it at one input. -/
def partitionOrdersWrong : ChangeSpec := { name := "partitionOrders", fn := fun _ => fun
  | [d1, d2] => { results := [.lit (.bool false)], args := [d1, d2] }
  | _ => none }
def PartitionOrdersWrongFalsely : Prop := partitionOrdersRow.holds Try.pinned (OpenSpec.ofChange partitionOrdersWrong)

/-- 'roundtablelaw04.PartitionCovers': WHATEVER THE INPUT: true; the input reads as it did. -/
def partitionCoversSpec : ChangeSpec := { name := "partitionCovers", fn := fun _ => fun
  | [d1, d2] => { results := [.lit (.bool true)], args := [d1, d2] }
  | _ => none }
def partitionCoversRow : OpenClaim := { program := "ytlacohjecehpiaa", sum := "ddf5b6d2434c531dc135e9952ec55184c871c3850c2a170634501466957ce342", func := "roundtable/roundtablelaw04.PartitionCovers", spec := "partitionCovers", unfollowed := true, recurses := true, plainKeys := false, apart := false }
def PartitionCoversSaid : Prop := partitionCoversRow.holds Try.pinned (OpenSpec.ofChange partitionCoversSpec)

/-- ITS FALSE NEIGHBOUR: 'it returns false'. Refute it at one input. -/
def partitionCoversWrong : ChangeSpec := { name := "partitionCovers", fn := fun _ => fun
  | [d1, d2] => { results := [.lit (.bool false)], args := [d1, d2] }
  | _ => none }
def PartitionCoversWrongFalsely : Prop := partitionCoversRow.holds Try.pinned (OpenSpec.ofChange partitionCoversWrong)

/-- 'roundtabletop.TopClassesDivide': WHATEVER THE INPUT: true; the input reads as it did. -/
def topClassesDivideSpec : ChangeSpec := { name := "topClassesDivide", fn := fun _ => fun
  | [d1, d2] => { results := [.lit (.bool true)], args := [d1, d2] }
  | _ => none }
def topClassesDivideRow : OpenClaim := { program := "ytlacohjecehpiaa", sum := "ddf5b6d2434c531dc135e9952ec55184c871c3850c2a170634501466957ce342", func := "roundtable/roundtabletop.TopClassesDivide", spec := "topClassesDivide", unfollowed := true, recurses := true, plainKeys := false, apart := false }
def TopClassesDivideSaid : Prop := topClassesDivideRow.holds Try.pinned (OpenSpec.ofChange topClassesDivideSpec)

/-- ITS FALSE NEIGHBOUR: 'it returns false'. Refute it at one input. -/
def topClassesDivideWrong : ChangeSpec := { name := "topClassesDivide", fn := fun _ => fun
  | [d1, d2] => { results := [.lit (.bool false)], args := [d1, d2] }
  | _ => none }
def TopClassesDivideWrongFalsely : Prop := topClassesDivideRow.holds Try.pinned (OpenSpec.ofChange topClassesDivideWrong)

/- THE SECOND FORM. 'bulk': how many values and letters a reading holds, each counted each time it is reached (what is shared counts as often as it is met; a slice's spare places count too). A statement '..UptoSaid' is the law's where the arguments, and the package variables that the reading takes, are together of bulk at most 1048576: NARROWER than '..Said'. Prove '..Said' where nothing that the law and all that it calls make is longer than what came in: it says more and counts as full. Else prove '..UptoSaid'. A law counts once. -/
mutual
def uptoBulk {H : Type} : DataW H → Nat
  | .lit (.string bytes) => bytes.length + 1
  | .lit _ => 1
  | .nil => 1
  | .ptr d => uptoBulk d + 1
  | .slice elems spare => uptoBulkAll elems + uptoBulkAll spare + 1
  | .agg parts => uptoBulkAll parts + 1
  | .iface _ d => uptoBulk d + 1
  | .map entries => uptoBulkEntries entries + 1
  | .held _ => 1
def uptoBulkAll {H : Type} : List (DataW H) → Nat
  | [] => 0
  | d :: r => uptoBulk d + uptoBulkAll r
def uptoBulkEntries {H : Type} : List (Lit × DataW H) → Nat
  | [] => 0
  | x :: r => uptoBulkEntry x + uptoBulkEntries r
def uptoBulkEntry {H : Type} : Lit × DataW H → Nat
  | (.string bytes, d) => bytes.length + uptoBulk d + 1
  | (_, d) => uptoBulk d + 1
 end
def uptoSmall : (H : Type) → List (DataW H) → Bool := fun _ ds => decide (uptoBulkAll ds ≤ 1048576)
def OpenSpec.upto (s : _root_.Go.ChangeSpec) : _root_.Go.OpenSpec := { _root_.Go.OpenSpec.ofChange s with cond := some uptoSmall }

/-- 'roundtablelaw04.PartitionChecks', WHERE WHAT IT READS IS OF BULK AT MOST 1048576: true; the input reads as it did. -/
def partitionChecksUptoRow : OpenClaim := { program := "ytlacohjecehpiaa", sum := "ddf5b6d2434c531dc135e9952ec55184c871c3850c2a170634501466957ce342", func := "roundtable/roundtablelaw04.PartitionChecks", spec := "partitionChecks", unfollowed := true, recurses := true, plainKeys := false, apart := false, narrowed := true }
def PartitionChecksUptoSaid : Prop := partitionChecksUptoRow.holds Try.pinned (OpenSpec.upto partitionChecksSpec)

/-- 'roundtablelaw04.PartitionForms', WHERE WHAT IT READS IS OF BULK AT MOST 1048576: true; the input reads as it did. -/
def partitionFormsUptoRow : OpenClaim := { program := "ytlacohjecehpiaa", sum := "ddf5b6d2434c531dc135e9952ec55184c871c3850c2a170634501466957ce342", func := "roundtable/roundtablelaw04.PartitionForms", spec := "partitionForms", unfollowed := true, recurses := true, plainKeys := false, apart := false, narrowed := true }
def PartitionFormsUptoSaid : Prop := partitionFormsUptoRow.holds Try.pinned (OpenSpec.upto partitionFormsSpec)

/-- 'roundtablelaw04.PartitionCombines', WHERE WHAT IT READS IS OF BULK AT MOST 1048576: true; the input reads as it did. -/
def partitionCombinesUptoRow : OpenClaim := { program := "ytlacohjecehpiaa", sum := "ddf5b6d2434c531dc135e9952ec55184c871c3850c2a170634501466957ce342", func := "roundtable/roundtablelaw04.PartitionCombines", spec := "partitionCombines", unfollowed := true, recurses := true, plainKeys := false, apart := false, narrowed := true }
def PartitionCombinesUptoSaid : Prop := partitionCombinesUptoRow.holds Try.pinned (OpenSpec.upto partitionCombinesSpec)

/-- 'roundtablelaw04.PartitionRefines', WHERE WHAT IT READS IS OF BULK AT MOST 1048576: true; the input reads as it did. -/
def partitionRefinesUptoRow : OpenClaim := { program := "ytlacohjecehpiaa", sum := "ddf5b6d2434c531dc135e9952ec55184c871c3850c2a170634501466957ce342", func := "roundtable/roundtablelaw04.PartitionRefines", spec := "partitionRefines", unfollowed := true, recurses := true, plainKeys := false, apart := false, narrowed := true }
def PartitionRefinesUptoSaid : Prop := partitionRefinesUptoRow.holds Try.pinned (OpenSpec.upto partitionRefinesSpec)

/-- 'roundtablelaw04.PartitionLattice', WHERE WHAT IT READS IS OF BULK AT MOST 1048576: true; the input reads as it did. -/
def partitionLatticeUptoRow : OpenClaim := { program := "ytlacohjecehpiaa", sum := "ddf5b6d2434c531dc135e9952ec55184c871c3850c2a170634501466957ce342", func := "roundtable/roundtablelaw04.PartitionLattice", spec := "partitionLattice", unfollowed := true, recurses := true, plainKeys := false, apart := false, narrowed := true }
def PartitionLatticeUptoSaid : Prop := partitionLatticeUptoRow.holds Try.pinned (OpenSpec.upto partitionLatticeSpec)

/-- 'roundtablelaw04.PartitionGroups', WHERE WHAT IT READS IS OF BULK AT MOST 1048576: true; the input reads as it did. -/
def partitionGroupsUptoRow : OpenClaim := { program := "ytlacohjecehpiaa", sum := "ddf5b6d2434c531dc135e9952ec55184c871c3850c2a170634501466957ce342", func := "roundtable/roundtablelaw04.PartitionGroups", spec := "partitionGroups", unfollowed := true, recurses := true, plainKeys := false, apart := false, narrowed := true }
def PartitionGroupsUptoSaid : Prop := partitionGroupsUptoRow.holds Try.pinned (OpenSpec.upto partitionGroupsSpec)

/-- 'roundtablelaw04.PartitionOrders', WHERE WHAT IT READS IS OF BULK AT MOST 1048576: true; the input reads as it did. -/
def partitionOrdersUptoRow : OpenClaim := { program := "ytlacohjecehpiaa", sum := "ddf5b6d2434c531dc135e9952ec55184c871c3850c2a170634501466957ce342", func := "roundtable/roundtablelaw04.PartitionOrders", spec := "partitionOrders", unfollowed := true, recurses := true, plainKeys := false, apart := false, narrowed := true }
def PartitionOrdersUptoSaid : Prop := partitionOrdersUptoRow.holds Try.pinned (OpenSpec.upto partitionOrdersSpec)

/-- 'roundtablelaw04.PartitionCovers', WHERE WHAT IT READS IS OF BULK AT MOST 1048576: true; the input reads as it did. -/
def partitionCoversUptoRow : OpenClaim := { program := "ytlacohjecehpiaa", sum := "ddf5b6d2434c531dc135e9952ec55184c871c3850c2a170634501466957ce342", func := "roundtable/roundtablelaw04.PartitionCovers", spec := "partitionCovers", unfollowed := true, recurses := true, plainKeys := false, apart := false, narrowed := true }
def PartitionCoversUptoSaid : Prop := partitionCoversUptoRow.holds Try.pinned (OpenSpec.upto partitionCoversSpec)

/-- 'roundtabletop.TopClassesDivide', WHERE WHAT IT READS IS OF BULK AT MOST 1048576: true; the input reads as it did. -/
def topClassesDivideUptoRow : OpenClaim := { program := "ytlacohjecehpiaa", sum := "ddf5b6d2434c531dc135e9952ec55184c871c3850c2a170634501466957ce342", func := "roundtable/roundtabletop.TopClassesDivide", spec := "topClassesDivide", unfollowed := true, recurses := true, plainKeys := false, apart := false, narrowed := true }
def TopClassesDivideUptoSaid : Prop := topClassesDivideUptoRow.holds Try.pinned (OpenSpec.upto topClassesDivideSpec)

end Rows
end Go.Proofs.Ytlacohjecehpiaa
