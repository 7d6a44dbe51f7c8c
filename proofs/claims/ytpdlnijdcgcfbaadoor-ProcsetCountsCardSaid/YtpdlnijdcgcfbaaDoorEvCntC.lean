/-
  ProcsetCounts: cases, by the kernel.
-/
import Derived.Test.YtpdlnijdcgcfbaaDoorEvCntBase
namespace Go.Proofs.YtpdlnijdcgcfbaaDoor.procsetCounts
open Go Go.Ev Go.RowKit
open Go.Proofs.YtpdlnijdcgcfbaaDoor.Ev
theorem caseF5_2 (e0 e1 e2 : TypeId) : run (.ofNat 5) (.ofNat 2) e0 e1 e2 = true := by kernel_rfl
theorem caseF5_6 (e0 e1 e2 : TypeId) : run (.ofNat 5) (.ofNat 6) e0 e1 e2 = true := by kernel_rfl
theorem caseF5_10 (e0 e1 e2 : TypeId) : run (.ofNat 5) (.ofNat 10) e0 e1 e2 = true := by kernel_rfl
theorem caseF5_14 (e0 e1 e2 : TypeId) : run (.ofNat 5) (.ofNat 14) e0 e1 e2 = true := by kernel_rfl
theorem caseF5_18 (e0 e1 e2 : TypeId) : run (.ofNat 5) (.ofNat 18) e0 e1 e2 = true := by kernel_rfl
theorem caseF5_22 (e0 e1 e2 : TypeId) : run (.ofNat 5) (.ofNat 22) e0 e1 e2 = true := by kernel_rfl
theorem caseF5_26 (e0 e1 e2 : TypeId) : run (.ofNat 5) (.ofNat 26) e0 e1 e2 = true := by kernel_rfl
theorem caseF5_30 (e0 e1 e2 : TypeId) : run (.ofNat 5) (.ofNat 30) e0 e1 e2 = true := by kernel_rfl
end Go.Proofs.YtpdlnijdcgcfbaaDoor.procsetCounts
