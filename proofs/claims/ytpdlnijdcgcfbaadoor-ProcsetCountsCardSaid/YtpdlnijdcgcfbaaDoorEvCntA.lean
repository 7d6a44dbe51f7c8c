/-
  ProcsetCounts: cases, by the kernel.
-/
import Derived.Test.YtpdlnijdcgcfbaaDoorEvCntBase
namespace Go.Proofs.YtpdlnijdcgcfbaaDoor.procsetCounts
open Go Go.Ev Go.RowKit
open Go.Proofs.YtpdlnijdcgcfbaaDoor.Ev
theorem caseF5_0 (e0 e1 e2 : TypeId) : run (.ofNat 5) (.ofNat 0) e0 e1 e2 = true := by kernel_rfl
theorem caseF5_4 (e0 e1 e2 : TypeId) : run (.ofNat 5) (.ofNat 4) e0 e1 e2 = true := by kernel_rfl
theorem caseF5_8 (e0 e1 e2 : TypeId) : run (.ofNat 5) (.ofNat 8) e0 e1 e2 = true := by kernel_rfl
theorem caseF5_12 (e0 e1 e2 : TypeId) : run (.ofNat 5) (.ofNat 12) e0 e1 e2 = true := by kernel_rfl
theorem caseF5_16 (e0 e1 e2 : TypeId) : run (.ofNat 5) (.ofNat 16) e0 e1 e2 = true := by kernel_rfl
theorem caseF5_20 (e0 e1 e2 : TypeId) : run (.ofNat 5) (.ofNat 20) e0 e1 e2 = true := by kernel_rfl
theorem caseF5_24 (e0 e1 e2 : TypeId) : run (.ofNat 5) (.ofNat 24) e0 e1 e2 = true := by kernel_rfl
theorem caseF5_28 (e0 e1 e2 : TypeId) : run (.ofNat 5) (.ofNat 28) e0 e1 e2 = true := by kernel_rfl
end Go.Proofs.YtpdlnijdcgcfbaaDoor.procsetCounts
