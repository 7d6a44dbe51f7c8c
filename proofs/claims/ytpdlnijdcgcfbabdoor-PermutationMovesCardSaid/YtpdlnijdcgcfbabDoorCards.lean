/-
  DERIVED. GIVEN WITH THE SEED: THE CARDS: each row of YtpdlnijdcgcfbabDoorRows.lean that lists a variable, with what it lists TIED to the program's text (the seventh form; the later family's looks); each row that meets fmt, with fmt's text TOLD by the authors' own Lean function (tested against real Go, not proved from fmt's source: count such statements apart). THE CARD IS WHAT COUNTS. Prove the row's statement (the work); the ties are given (YtpdlnijdcgcfbabDoorTie.lean); close each card by the builder's one call (the guide's Derived/Test/ToyasCard.lean, 'card_holds'). Laid BY PROGRAM, IN A SANDBOX (cutbox-door.mjs). By AI agents, Wed Nov 11 2026. No macro, syntax, notation, axiom, sorry.
-/
import Derived.Test.YtpdlnijdcgcfbabDoorRows
import GoSem.ClaimSeven
namespace Go.Proofs.YtpdlnijdcgcfbabDoor
namespace Rows

/-- THE TIED CARD OF 'roundtablelaw02.PermutationGroup'. -/
def permutationGroupCard : Claim7 := { stood := { row := permutationGroupRow, standIns := [], harness := (true, "a41d605004e44eb84c6c43b509b209e199236c8e7c65294597de23c1109b48e2"), looks := false }, kinds := [], alts := [], laidByText := true, laidKinds := [.data, .data, .data], laidTests := true, laidLooks := .later }
def PermutationGroupCardSaid : Prop := Claim7.holds Tryd.pinned (.plain (OpenSpec.ofChange permutationGroupSpec)) permutationGroupCard

/-- THE TIED CARD OF 'roundtablelaw02.PermutationMoves'. -/
def permutationMovesCard : Claim7 := { stood := { row := permutationMovesRow, standIns := [], harness := (true, "a41d605004e44eb84c6c43b509b209e199236c8e7c65294597de23c1109b48e2"), looks := false }, kinds := [], alts := [], laidByText := true, laidKinds := [.data, .data, .data], laidTests := true, laidLooks := .later }
def PermutationMovesCardSaid : Prop := Claim7.holds Tryd.pinned (.plain (OpenSpec.ofChange permutationMovesSpec)) permutationMovesCard

/-- THE TIED CARD OF 'roundtablelaw02.PermutationCloses'. -/
def permutationClosesCard : Claim7 := { stood := { row := permutationClosesRow, standIns := [], harness := (true, "a41d605004e44eb84c6c43b509b209e199236c8e7c65294597de23c1109b48e2"), looks := false }, kinds := [], alts := [], laidByText := true, laidKinds := [.data, .data, .data], laidTests := true, laidLooks := .later }
def PermutationClosesCardSaid : Prop := Claim7.holds Tryd.pinned (.plain (OpenSpec.ofChange permutationClosesSpec)) permutationClosesCard

/-- THE TIED CARD OF 'roundtablelaw02.PermutationReads'. -/
def permutationReadsCard : Claim7 := { stood := { row := permutationReadsRow, standIns := [], harness := (true, "a41d605004e44eb84c6c43b509b209e199236c8e7c65294597de23c1109b48e2"), looks := false }, kinds := [], alts := [], laidByText := true, laidKinds := [.data, .data, .data], laidTests := true, laidLooks := .later }
def PermutationReadsCardSaid : Prop := Claim7.holds Tryd.pinned (.plain (OpenSpec.ofChange permutationReadsSpec)) permutationReadsCard

/-- THE SECOND FORM's CARD OF 'roundtablelaw02.PermutationGroup'. -/
def permutationGroupUptoCard : Claim7 := { stood := { row := permutationGroupUptoRow, standIns := [], harness := (true, "a41d605004e44eb84c6c43b509b209e199236c8e7c65294597de23c1109b48e2"), looks := false }, kinds := [], alts := [], laidByText := true, laidKinds := [.data, .data, .data], laidTests := true, laidLooks := .later }
def PermutationGroupUptoCardSaid : Prop := Claim7.holds Tryd.pinned (.plain (OpenSpec.upto permutationGroupSpec)) permutationGroupUptoCard

/-- THE SECOND FORM's CARD OF 'roundtablelaw02.PermutationMoves'. -/
def permutationMovesUptoCard : Claim7 := { stood := { row := permutationMovesUptoRow, standIns := [], harness := (true, "a41d605004e44eb84c6c43b509b209e199236c8e7c65294597de23c1109b48e2"), looks := false }, kinds := [], alts := [], laidByText := true, laidKinds := [.data, .data, .data], laidTests := true, laidLooks := .later }
def PermutationMovesUptoCardSaid : Prop := Claim7.holds Tryd.pinned (.plain (OpenSpec.upto permutationMovesSpec)) permutationMovesUptoCard

/-- THE SECOND FORM's CARD OF 'roundtablelaw02.PermutationCloses'. -/
def permutationClosesUptoCard : Claim7 := { stood := { row := permutationClosesUptoRow, standIns := [], harness := (true, "a41d605004e44eb84c6c43b509b209e199236c8e7c65294597de23c1109b48e2"), looks := false }, kinds := [], alts := [], laidByText := true, laidKinds := [.data, .data, .data], laidTests := true, laidLooks := .later }
def PermutationClosesUptoCardSaid : Prop := Claim7.holds Tryd.pinned (.plain (OpenSpec.upto permutationClosesSpec)) permutationClosesUptoCard

/-- THE SECOND FORM's CARD OF 'roundtablelaw02.PermutationReads'. -/
def permutationReadsUptoCard : Claim7 := { stood := { row := permutationReadsUptoRow, standIns := [], harness := (true, "a41d605004e44eb84c6c43b509b209e199236c8e7c65294597de23c1109b48e2"), looks := false }, kinds := [], alts := [], laidByText := true, laidKinds := [.data, .data, .data], laidTests := true, laidLooks := .later }
def PermutationReadsUptoCardSaid : Prop := Claim7.holds Tryd.pinned (.plain (OpenSpec.upto permutationReadsSpec)) permutationReadsUptoCard
end Rows
end Go.Proofs.YtpdlnijdcgcfbabDoor
