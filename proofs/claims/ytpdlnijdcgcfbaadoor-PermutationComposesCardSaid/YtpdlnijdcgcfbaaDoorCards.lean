/-
  DERIVED. GIVEN WITH THE SEED: THE CARDS: each row of YtpdlnijdcgcfbaaDoorRows.lean that lists a variable, with what it lists TIED to the program's text (the seventh form; the later family's looks); each row that meets fmt, with fmt's text TOLD by the authors' own Lean function (tested against real Go, not proved from fmt's source: count such statements apart). THE CARD IS WHAT COUNTS. Prove the row's statement (the work); the ties are given (YtpdlnijdcgcfbaaDoorTie.lean); close each card by the builder's one call (the guide's Derived/Test/ToyasCard.lean, 'card_holds'). Laid BY PROGRAM, IN A SANDBOX (cutbox-door.mjs). By AI agents, Wed Nov 11 2026. No macro, syntax, notation, axiom, sorry.
-/
import Derived.Test.YtpdlnijdcgcfbaaDoorRows
import GoSem.ClaimSeven
namespace Go.Proofs.YtpdlnijdcgcfbaaDoor
namespace Rows

/-- THE TIED CARD OF 'roundtablelaw01.ProcsetLists'. -/
def procsetListsCard : Claim7 := { stood := { row := procsetListsRow, standIns := [], harness := (true, "7e67a264f5cbe1d92bc2cb9367f6a6dd9dbffc01d107c39396f6ea0d77a8e31b"), looks := false }, kinds := [], alts := [], laidByText := true, laidKinds := [.data, .data, .data, .data, .pinned], laidTests := true, laidLooks := .later }
def ProcsetListsCardSaid : Prop := Claim7.holds Tryd.pinned (.plain (OpenSpec.ofChange procsetListsSpec)) procsetListsCard

/-- THE TIED CARD OF 'roundtablelaw01.ProcsetCollects'. -/
def procsetCollectsCard : Claim7 := { stood := { row := procsetCollectsRow, standIns := [], harness := (true, "7e67a264f5cbe1d92bc2cb9367f6a6dd9dbffc01d107c39396f6ea0d77a8e31b"), looks := false }, kinds := [], alts := [], laidByText := true, laidKinds := [.data, .data, .data, .data, .pinned], laidTests := true, laidLooks := .later }
def ProcsetCollectsCardSaid : Prop := Claim7.holds Tryd.pinned (.plain (OpenSpec.ofChange procsetCollectsSpec)) procsetCollectsCard

/-- THE TIED CARD OF 'roundtablelaw01.ProcsetChooses'. -/
def procsetChoosesCard : Claim7 := { stood := { row := procsetChoosesRow, standIns := [], harness := (true, "7e67a264f5cbe1d92bc2cb9367f6a6dd9dbffc01d107c39396f6ea0d77a8e31b"), looks := false }, kinds := [], alts := [], laidByText := true, laidKinds := [.data, .data, .data, .data, .pinned], laidTests := true, laidLooks := .later }
def ProcsetChoosesCardSaid : Prop := Claim7.holds Tryd.pinned (.plain (OpenSpec.ofChange procsetChoosesSpec)) procsetChoosesCard

/-- THE TIED CARD OF 'roundtablelaw01.ProcsetReads'. -/
def procsetReadsCard : Claim7 := { stood := { row := procsetReadsRow, standIns := [], harness := (true, "7e67a264f5cbe1d92bc2cb9367f6a6dd9dbffc01d107c39396f6ea0d77a8e31b"), looks := false }, kinds := [], alts := [], laidByText := true, laidKinds := [.data, .data, .data, .data, .pinned], laidTests := true, laidLooks := .later }
def ProcsetReadsCardSaid : Prop := Claim7.holds Tryd.pinned (.plain (OpenSpec.ofChange procsetReadsSpec)) procsetReadsCard

/-- THE TIED CARD OF 'roundtablelaw01.ProcsetReturns'. -/
def procsetReturnsCard : Claim7 := { stood := { row := procsetReturnsRow, standIns := [], harness := (true, "7e67a264f5cbe1d92bc2cb9367f6a6dd9dbffc01d107c39396f6ea0d77a8e31b"), looks := false }, kinds := [], alts := [], laidByText := true, laidKinds := [.data, .data, .data, .data, .pinned], laidTests := true, laidLooks := .later }
def ProcsetReturnsCardSaid : Prop := Claim7.holds Tryd.pinned (.plain (OpenSpec.ofChange procsetReturnsSpec)) procsetReturnsCard

/-- THE TIED CARD OF 'roundtablelaw01.ProcsetCounts'. -/
def procsetCountsCard : Claim7 := { stood := { row := procsetCountsRow, standIns := [], harness := (true, "7e67a264f5cbe1d92bc2cb9367f6a6dd9dbffc01d107c39396f6ea0d77a8e31b"), looks := false }, kinds := [], alts := [], laidByText := true, laidKinds := [.data, .data, .data, .data, .pinned], laidTests := true, laidLooks := .later }
def ProcsetCountsCardSaid : Prop := Claim7.holds Tryd.pinned (.plain (OpenSpec.ofChange procsetCountsSpec)) procsetCountsCard

/-- THE TIED CARD OF 'roundtablelaw01.ProcsetMirrors'. -/
def procsetMirrorsCard : Claim7 := { stood := { row := procsetMirrorsRow, standIns := [], harness := (true, "7e67a264f5cbe1d92bc2cb9367f6a6dd9dbffc01d107c39396f6ea0d77a8e31b"), looks := false }, kinds := [], alts := [], laidByText := true, laidKinds := [.data, .data, .data, .data, .pinned], laidTests := true, laidLooks := .later }
def ProcsetMirrorsCardSaid : Prop := Claim7.holds Tryd.pinned (.plain (OpenSpec.ofChange procsetMirrorsSpec)) procsetMirrorsCard

/-- THE TIED CARD OF 'roundtablelaw02.PermutationChecks'. -/
def permutationChecksCard : Claim7 := { stood := { row := permutationChecksRow, standIns := [], harness := (true, "7e67a264f5cbe1d92bc2cb9367f6a6dd9dbffc01d107c39396f6ea0d77a8e31b"), looks := false }, kinds := [], alts := [], laidByText := true, laidKinds := [.data, .data, .data], laidTests := true, laidLooks := .later }
def PermutationChecksCardSaid : Prop := Claim7.holds Tryd.pinned (.plain (OpenSpec.ofChange permutationChecksSpec)) permutationChecksCard

/-- THE TIED CARD OF 'roundtablelaw02.PermutationComposes'. -/
def permutationComposesCard : Claim7 := { stood := { row := permutationComposesRow, standIns := [], harness := (true, "7e67a264f5cbe1d92bc2cb9367f6a6dd9dbffc01d107c39396f6ea0d77a8e31b"), looks := false }, kinds := [], alts := [], laidByText := true, laidKinds := [.data, .data, .data], laidTests := true, laidLooks := .later }
def PermutationComposesCardSaid : Prop := Claim7.holds Tryd.pinned (.plain (OpenSpec.ofChange permutationComposesSpec)) permutationComposesCard

/-- THE TIED CARD OF 'roundtablelaw02.PermutationActs'. -/
def permutationActsCard : Claim7 := { stood := { row := permutationActsRow, standIns := [], harness := (true, "7e67a264f5cbe1d92bc2cb9367f6a6dd9dbffc01d107c39396f6ea0d77a8e31b"), looks := false }, kinds := [], alts := [], laidByText := true, laidKinds := [.data, .data, .data], laidTests := true, laidLooks := .later }
def PermutationActsCardSaid : Prop := Claim7.holds Tryd.pinned (.plain (OpenSpec.ofChange permutationActsSpec)) permutationActsCard

/-- THE TIED CARD OF 'roundtablelaw02.PermutationGenerates'. -/
def permutationGeneratesCard : Claim7 := { stood := { row := permutationGeneratesRow, standIns := [], harness := (true, "7e67a264f5cbe1d92bc2cb9367f6a6dd9dbffc01d107c39396f6ea0d77a8e31b"), looks := false }, kinds := [], alts := [], laidByText := true, laidKinds := [.data, .data, .data], laidTests := true, laidLooks := .later }
def PermutationGeneratesCardSaid : Prop := Claim7.holds Tryd.pinned (.plain (OpenSpec.ofChange permutationGeneratesSpec)) permutationGeneratesCard

/-- THE TIED CARD OF 'roundtablelaw02.PermutationTexts'. -/
def permutationTextsCard : Claim7 := { stood := { row := permutationTextsRow, standIns := [], harness := (true, "7e67a264f5cbe1d92bc2cb9367f6a6dd9dbffc01d107c39396f6ea0d77a8e31b"), looks := false }, kinds := [], alts := [], laidByText := true, laidKinds := [.data, .data, .data], laidTests := true, laidLooks := .later }
def PermutationTextsCardSaid : Prop := Claim7.holds Tryd.pinned (.plain (OpenSpec.ofChange permutationTextsSpec)) permutationTextsCard

/-- THE SECOND FORM's CARD OF 'roundtablelaw01.ProcsetLists'. -/
def procsetListsUptoCard : Claim7 := { stood := { row := procsetListsUptoRow, standIns := [], harness := (true, "7e67a264f5cbe1d92bc2cb9367f6a6dd9dbffc01d107c39396f6ea0d77a8e31b"), looks := false }, kinds := [], alts := [], laidByText := true, laidKinds := [.data, .data, .data, .data, .pinned], laidTests := true, laidLooks := .later }
def ProcsetListsUptoCardSaid : Prop := Claim7.holds Tryd.pinned (.plain (OpenSpec.upto procsetListsSpec)) procsetListsUptoCard

/-- THE SECOND FORM's CARD OF 'roundtablelaw01.ProcsetCollects'. -/
def procsetCollectsUptoCard : Claim7 := { stood := { row := procsetCollectsUptoRow, standIns := [], harness := (true, "7e67a264f5cbe1d92bc2cb9367f6a6dd9dbffc01d107c39396f6ea0d77a8e31b"), looks := false }, kinds := [], alts := [], laidByText := true, laidKinds := [.data, .data, .data, .data, .pinned], laidTests := true, laidLooks := .later }
def ProcsetCollectsUptoCardSaid : Prop := Claim7.holds Tryd.pinned (.plain (OpenSpec.upto procsetCollectsSpec)) procsetCollectsUptoCard

/-- THE SECOND FORM's CARD OF 'roundtablelaw01.ProcsetChooses'. -/
def procsetChoosesUptoCard : Claim7 := { stood := { row := procsetChoosesUptoRow, standIns := [], harness := (true, "7e67a264f5cbe1d92bc2cb9367f6a6dd9dbffc01d107c39396f6ea0d77a8e31b"), looks := false }, kinds := [], alts := [], laidByText := true, laidKinds := [.data, .data, .data, .data, .pinned], laidTests := true, laidLooks := .later }
def ProcsetChoosesUptoCardSaid : Prop := Claim7.holds Tryd.pinned (.plain (OpenSpec.upto procsetChoosesSpec)) procsetChoosesUptoCard

/-- THE SECOND FORM's CARD OF 'roundtablelaw01.ProcsetReads'. -/
def procsetReadsUptoCard : Claim7 := { stood := { row := procsetReadsUptoRow, standIns := [], harness := (true, "7e67a264f5cbe1d92bc2cb9367f6a6dd9dbffc01d107c39396f6ea0d77a8e31b"), looks := false }, kinds := [], alts := [], laidByText := true, laidKinds := [.data, .data, .data, .data, .pinned], laidTests := true, laidLooks := .later }
def ProcsetReadsUptoCardSaid : Prop := Claim7.holds Tryd.pinned (.plain (OpenSpec.upto procsetReadsSpec)) procsetReadsUptoCard

/-- THE SECOND FORM's CARD OF 'roundtablelaw01.ProcsetReturns'. -/
def procsetReturnsUptoCard : Claim7 := { stood := { row := procsetReturnsUptoRow, standIns := [], harness := (true, "7e67a264f5cbe1d92bc2cb9367f6a6dd9dbffc01d107c39396f6ea0d77a8e31b"), looks := false }, kinds := [], alts := [], laidByText := true, laidKinds := [.data, .data, .data, .data, .pinned], laidTests := true, laidLooks := .later }
def ProcsetReturnsUptoCardSaid : Prop := Claim7.holds Tryd.pinned (.plain (OpenSpec.upto procsetReturnsSpec)) procsetReturnsUptoCard

/-- THE SECOND FORM's CARD OF 'roundtablelaw01.ProcsetCounts'. -/
def procsetCountsUptoCard : Claim7 := { stood := { row := procsetCountsUptoRow, standIns := [], harness := (true, "7e67a264f5cbe1d92bc2cb9367f6a6dd9dbffc01d107c39396f6ea0d77a8e31b"), looks := false }, kinds := [], alts := [], laidByText := true, laidKinds := [.data, .data, .data, .data, .pinned], laidTests := true, laidLooks := .later }
def ProcsetCountsUptoCardSaid : Prop := Claim7.holds Tryd.pinned (.plain (OpenSpec.upto procsetCountsSpec)) procsetCountsUptoCard

/-- THE SECOND FORM's CARD OF 'roundtablelaw01.ProcsetMirrors'. -/
def procsetMirrorsUptoCard : Claim7 := { stood := { row := procsetMirrorsUptoRow, standIns := [], harness := (true, "7e67a264f5cbe1d92bc2cb9367f6a6dd9dbffc01d107c39396f6ea0d77a8e31b"), looks := false }, kinds := [], alts := [], laidByText := true, laidKinds := [.data, .data, .data, .data, .pinned], laidTests := true, laidLooks := .later }
def ProcsetMirrorsUptoCardSaid : Prop := Claim7.holds Tryd.pinned (.plain (OpenSpec.upto procsetMirrorsSpec)) procsetMirrorsUptoCard

/-- THE SECOND FORM's CARD OF 'roundtablelaw02.PermutationChecks'. -/
def permutationChecksUptoCard : Claim7 := { stood := { row := permutationChecksUptoRow, standIns := [], harness := (true, "7e67a264f5cbe1d92bc2cb9367f6a6dd9dbffc01d107c39396f6ea0d77a8e31b"), looks := false }, kinds := [], alts := [], laidByText := true, laidKinds := [.data, .data, .data], laidTests := true, laidLooks := .later }
def PermutationChecksUptoCardSaid : Prop := Claim7.holds Tryd.pinned (.plain (OpenSpec.upto permutationChecksSpec)) permutationChecksUptoCard

/-- THE SECOND FORM's CARD OF 'roundtablelaw02.PermutationComposes'. -/
def permutationComposesUptoCard : Claim7 := { stood := { row := permutationComposesUptoRow, standIns := [], harness := (true, "7e67a264f5cbe1d92bc2cb9367f6a6dd9dbffc01d107c39396f6ea0d77a8e31b"), looks := false }, kinds := [], alts := [], laidByText := true, laidKinds := [.data, .data, .data], laidTests := true, laidLooks := .later }
def PermutationComposesUptoCardSaid : Prop := Claim7.holds Tryd.pinned (.plain (OpenSpec.upto permutationComposesSpec)) permutationComposesUptoCard

/-- THE SECOND FORM's CARD OF 'roundtablelaw02.PermutationActs'. -/
def permutationActsUptoCard : Claim7 := { stood := { row := permutationActsUptoRow, standIns := [], harness := (true, "7e67a264f5cbe1d92bc2cb9367f6a6dd9dbffc01d107c39396f6ea0d77a8e31b"), looks := false }, kinds := [], alts := [], laidByText := true, laidKinds := [.data, .data, .data], laidTests := true, laidLooks := .later }
def PermutationActsUptoCardSaid : Prop := Claim7.holds Tryd.pinned (.plain (OpenSpec.upto permutationActsSpec)) permutationActsUptoCard

/-- THE SECOND FORM's CARD OF 'roundtablelaw02.PermutationGenerates'. -/
def permutationGeneratesUptoCard : Claim7 := { stood := { row := permutationGeneratesUptoRow, standIns := [], harness := (true, "7e67a264f5cbe1d92bc2cb9367f6a6dd9dbffc01d107c39396f6ea0d77a8e31b"), looks := false }, kinds := [], alts := [], laidByText := true, laidKinds := [.data, .data, .data], laidTests := true, laidLooks := .later }
def PermutationGeneratesUptoCardSaid : Prop := Claim7.holds Tryd.pinned (.plain (OpenSpec.upto permutationGeneratesSpec)) permutationGeneratesUptoCard

/-- THE SECOND FORM's CARD OF 'roundtablelaw02.PermutationTexts'. -/
def permutationTextsUptoCard : Claim7 := { stood := { row := permutationTextsUptoRow, standIns := [], harness := (true, "7e67a264f5cbe1d92bc2cb9367f6a6dd9dbffc01d107c39396f6ea0d77a8e31b"), looks := false }, kinds := [], alts := [], laidByText := true, laidKinds := [.data, .data, .data], laidTests := true, laidLooks := .later }
def PermutationTextsUptoCardSaid : Prop := Claim7.holds Tryd.pinned (.plain (OpenSpec.upto permutationTextsSpec)) permutationTextsUptoCard
end Rows
end Go.Proofs.YtpdlnijdcgcfbaaDoor
