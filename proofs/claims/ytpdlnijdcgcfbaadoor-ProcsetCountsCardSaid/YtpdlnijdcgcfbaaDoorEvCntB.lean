/-
  ProcsetCounts: cases, by the kernel.
-/
import Derived.Test.YtpdlnijdcgcfbaaDoorEvCntBase
namespace Go.Proofs.YtpdlnijdcgcfbaaDoor.procsetCounts
open Go Go.Ev Go.RowKit
open Go.Proofs.YtpdlnijdcgcfbaaDoor.Ev
theorem caseF5_1 (e0 e1 e2 : TypeId) : run (.ofNat 5) (.ofNat 1) e0 e1 e2 = true := by kernel_rfl
theorem caseF5_5 (e0 e1 e2 : TypeId) : run (.ofNat 5) (.ofNat 5) e0 e1 e2 = true := by kernel_rfl
theorem caseF5_9 (e0 e1 e2 : TypeId) : run (.ofNat 5) (.ofNat 9) e0 e1 e2 = true := by kernel_rfl
theorem caseF5_13 (e0 e1 e2 : TypeId) : run (.ofNat 5) (.ofNat 13) e0 e1 e2 = true := by kernel_rfl
theorem caseF5_17 (e0 e1 e2 : TypeId) : run (.ofNat 5) (.ofNat 17) e0 e1 e2 = true := by kernel_rfl
theorem caseF5_21 (e0 e1 e2 : TypeId) : run (.ofNat 5) (.ofNat 21) e0 e1 e2 = true := by kernel_rfl
theorem caseF5_25 (e0 e1 e2 : TypeId) : run (.ofNat 5) (.ofNat 25) e0 e1 e2 = true := by kernel_rfl
theorem caseF5_29 (e0 e1 e2 : TypeId) : run (.ofNat 5) (.ofNat 29) e0 e1 e2 = true := by kernel_rfl
end Go.Proofs.YtpdlnijdcgcfbaaDoor.procsetCounts
