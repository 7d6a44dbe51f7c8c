/-
  ProcsetCounts: cases, by the kernel.
-/
import Derived.Test.YtpdlnijdcgcfbaaDoorEvCntBase
namespace Go.Proofs.YtpdlnijdcgcfbaaDoor.procsetCounts
open Go Go.Ev Go.RowKit
open Go.Proofs.YtpdlnijdcgcfbaaDoor.Ev
theorem caseF5_3 (e0 e1 e2 : TypeId) : run (.ofNat 5) (.ofNat 3) e0 e1 e2 = true := by kernel_rfl
theorem caseF5_7 (e0 e1 e2 : TypeId) : run (.ofNat 5) (.ofNat 7) e0 e1 e2 = true := by kernel_rfl
theorem caseF5_11 (e0 e1 e2 : TypeId) : run (.ofNat 5) (.ofNat 11) e0 e1 e2 = true := by kernel_rfl
theorem caseF5_15 (e0 e1 e2 : TypeId) : run (.ofNat 5) (.ofNat 15) e0 e1 e2 = true := by kernel_rfl
theorem caseF5_19 (e0 e1 e2 : TypeId) : run (.ofNat 5) (.ofNat 19) e0 e1 e2 = true := by kernel_rfl
theorem caseF5_23 (e0 e1 e2 : TypeId) : run (.ofNat 5) (.ofNat 23) e0 e1 e2 = true := by kernel_rfl
theorem caseF5_27 (e0 e1 e2 : TypeId) : run (.ofNat 5) (.ofNat 27) e0 e1 e2 = true := by kernel_rfl
theorem caseF5_31 (e0 e1 e2 : TypeId) : run (.ofNat 5) (.ofNat 31) e0 e1 e2 = true := by kernel_rfl
end Go.Proofs.YtpdlnijdcgcfbaaDoor.procsetCounts
