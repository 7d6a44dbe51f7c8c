/-
  DERIVED. GIVEN WITH THE SEED: THE CARDS: each row of YtlineonmpbdkgaaDoorRows.lean that lists a variable, with what it lists TIED to the program's text (the seventh form; the later family's looks); each row that meets fmt, with fmt's text TOLD by the authors' own Lean function (tested against real Go, not proved from fmt's source: count such statements apart). THE CARD IS WHAT COUNTS. Prove the row's statement (the work); the ties are given (YtlineonmpbdkgaaDoorTie.lean); close each card by the builder's one call (the guide's Derived/Test/ToyasCard.lean, 'card_holds'). Laid BY PROGRAM, IN A SANDBOX (cutbox-door.mjs). By AI agents, Wed Nov 11 2026. No macro, syntax, notation, axiom, sorry.
-/
import Derived.Test.YtlineonmpbdkgaaDoorRows
import GoSem.ClaimSeven
namespace Go.Proofs.YtlineonmpbdkgaaDoor
namespace Rows

/-- THE TIED CARD OF 'roundtablelaw15.RoundChecks'. -/
def roundChecksCard : Claim7 := { stood := { row := roundChecksRow, standIns := [], harness := (true, "e90b0c75b860f8b77df582bab664e0c349014510376694cc5e1ea05a84b5d432"), looks := false }, kinds := [], alts := [], laidByText := true, laidKinds := [.data, .data, .data, .pinned], laidTests := true, laidLooks := .later }
def RoundChecksCardSaid : Prop := Claim7.holds Tryd.pinned (.plain (OpenSpec.ofChange roundChecksSpec)) roundChecksCard

/-- THE TIED CARD OF 'roundtablelaw15.RoundPermutes'. -/
def roundPermutesCard : Claim7 := { stood := { row := roundPermutesRow, standIns := [], harness := (true, "e90b0c75b860f8b77df582bab664e0c349014510376694cc5e1ea05a84b5d432"), looks := false }, kinds := [], alts := [], laidByText := true, laidKinds := [.data, .data, .data, .pinned], laidTests := true, laidLooks := .later }
def RoundPermutesCardSaid : Prop := Claim7.holds Tryd.pinned (.plain (OpenSpec.ofChange roundPermutesSpec)) roundPermutesCard

/-- THE TIED CARD OF 'roundtablelaw15.RoundEnds'. -/
def roundEndsCard : Claim7 := { stood := { row := roundEndsRow, standIns := [], harness := (true, "e90b0c75b860f8b77df582bab664e0c349014510376694cc5e1ea05a84b5d432"), looks := false }, kinds := [], alts := [], laidByText := true, laidKinds := [.data, .data, .data, .pinned], laidTests := true, laidLooks := .later }
def RoundEndsCardSaid : Prop := Claim7.holds Tryd.pinned (.plain (OpenSpec.ofChange roundEndsSpec)) roundEndsCard

/-- THE TIED CARD OF 'roundtablelaw15.RoundOrders'. -/
def roundOrdersCard : Claim7 := { stood := { row := roundOrdersRow, standIns := [], harness := (true, "e90b0c75b860f8b77df582bab664e0c349014510376694cc5e1ea05a84b5d432"), looks := false }, kinds := [], alts := [], laidByText := true, laidKinds := [.data, .data, .data, .pinned], laidTests := true, laidLooks := .later }
def RoundOrdersCardSaid : Prop := Claim7.holds Tryd.pinned (.plain (OpenSpec.ofChange roundOrdersSpec)) roundOrdersCard

/-- THE TIED CARD OF 'roundtablelaw15.RoundJoins'. -/
def roundJoinsCard : Claim7 := { stood := { row := roundJoinsRow, standIns := [], harness := (true, "e90b0c75b860f8b77df582bab664e0c349014510376694cc5e1ea05a84b5d432"), looks := false }, kinds := [], alts := [], laidByText := true, laidKinds := [.data, .data, .data, .pinned], laidTests := true, laidLooks := .later }
def RoundJoinsCardSaid : Prop := Claim7.holds Tryd.pinned (.plain (OpenSpec.ofChange roundJoinsSpec)) roundJoinsCard

/-- THE TIED CARD OF 'roundtablelaw15.RoundRenames'. -/
def roundRenamesCard : Claim7 := { stood := { row := roundRenamesRow, standIns := [], harness := (true, "e90b0c75b860f8b77df582bab664e0c349014510376694cc5e1ea05a84b5d432"), looks := false }, kinds := [], alts := [], laidByText := true, laidKinds := [.data, .data, .data, .pinned], laidTests := true, laidLooks := .later }
def RoundRenamesCardSaid : Prop := Claim7.holds Tryd.pinned (.plain (OpenSpec.ofChange roundRenamesSpec)) roundRenamesCard

/-- THE SECOND FORM's CARD OF 'roundtablelaw15.RoundChecks'. -/
def roundChecksUptoCard : Claim7 := { stood := { row := roundChecksUptoRow, standIns := [], harness := (true, "e90b0c75b860f8b77df582bab664e0c349014510376694cc5e1ea05a84b5d432"), looks := false }, kinds := [], alts := [], laidByText := true, laidKinds := [.data, .data, .data, .pinned], laidTests := true, laidLooks := .later }
def RoundChecksUptoCardSaid : Prop := Claim7.holds Tryd.pinned (.plain (OpenSpec.upto roundChecksSpec)) roundChecksUptoCard

/-- THE SECOND FORM's CARD OF 'roundtablelaw15.RoundPermutes'. -/
def roundPermutesUptoCard : Claim7 := { stood := { row := roundPermutesUptoRow, standIns := [], harness := (true, "e90b0c75b860f8b77df582bab664e0c349014510376694cc5e1ea05a84b5d432"), looks := false }, kinds := [], alts := [], laidByText := true, laidKinds := [.data, .data, .data, .pinned], laidTests := true, laidLooks := .later }
def RoundPermutesUptoCardSaid : Prop := Claim7.holds Tryd.pinned (.plain (OpenSpec.upto roundPermutesSpec)) roundPermutesUptoCard

/-- THE SECOND FORM's CARD OF 'roundtablelaw15.RoundEnds'. -/
def roundEndsUptoCard : Claim7 := { stood := { row := roundEndsUptoRow, standIns := [], harness := (true, "e90b0c75b860f8b77df582bab664e0c349014510376694cc5e1ea05a84b5d432"), looks := false }, kinds := [], alts := [], laidByText := true, laidKinds := [.data, .data, .data, .pinned], laidTests := true, laidLooks := .later }
def RoundEndsUptoCardSaid : Prop := Claim7.holds Tryd.pinned (.plain (OpenSpec.upto roundEndsSpec)) roundEndsUptoCard

/-- THE SECOND FORM's CARD OF 'roundtablelaw15.RoundOrders'. -/
def roundOrdersUptoCard : Claim7 := { stood := { row := roundOrdersUptoRow, standIns := [], harness := (true, "e90b0c75b860f8b77df582bab664e0c349014510376694cc5e1ea05a84b5d432"), looks := false }, kinds := [], alts := [], laidByText := true, laidKinds := [.data, .data, .data, .pinned], laidTests := true, laidLooks := .later }
def RoundOrdersUptoCardSaid : Prop := Claim7.holds Tryd.pinned (.plain (OpenSpec.upto roundOrdersSpec)) roundOrdersUptoCard

/-- THE SECOND FORM's CARD OF 'roundtablelaw15.RoundJoins'. -/
def roundJoinsUptoCard : Claim7 := { stood := { row := roundJoinsUptoRow, standIns := [], harness := (true, "e90b0c75b860f8b77df582bab664e0c349014510376694cc5e1ea05a84b5d432"), looks := false }, kinds := [], alts := [], laidByText := true, laidKinds := [.data, .data, .data, .pinned], laidTests := true, laidLooks := .later }
def RoundJoinsUptoCardSaid : Prop := Claim7.holds Tryd.pinned (.plain (OpenSpec.upto roundJoinsSpec)) roundJoinsUptoCard

/-- THE SECOND FORM's CARD OF 'roundtablelaw15.RoundRenames'. -/
def roundRenamesUptoCard : Claim7 := { stood := { row := roundRenamesUptoRow, standIns := [], harness := (true, "e90b0c75b860f8b77df582bab664e0c349014510376694cc5e1ea05a84b5d432"), looks := false }, kinds := [], alts := [], laidByText := true, laidKinds := [.data, .data, .data, .pinned], laidTests := true, laidLooks := .later }
def RoundRenamesUptoCardSaid : Prop := Claim7.holds Tryd.pinned (.plain (OpenSpec.upto roundRenamesSpec)) roundRenamesUptoCard
end Rows
end Go.Proofs.YtlineonmpbdkgaaDoor
