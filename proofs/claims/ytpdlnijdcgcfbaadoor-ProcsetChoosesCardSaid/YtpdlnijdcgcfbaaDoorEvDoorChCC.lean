/-
  ProcsetChooses: cases, by the kernel.
-/
import Derived.Test.YtpdlnijdcgcfbaaDoorEvDoorChBase
namespace Go.Proofs.YtpdlnijdcgcfbaaDoor.procsetChooses
open Go Go.Ev Go.RowKit
open Go.Proofs.YtpdlnijdcgcfbaaDoor.Ev
theorem ib5_31 (e0 e1 e2 : TypeId) : runL [3, 4, 5] (.ofNat 5) (.ofNat 31) e0 e1 e2 = true := by kernel_rfl
theorem ng5_31 (m : Nat) (e0 e1 e2 : TypeId) : run (.ofNat 5) (.ofNat 31) (.negSucc m) e0 e1 e2 = true := by kernel_rfl
theorem bg5_31 (e0 e1 e2 : TypeId) : runB (.ofNat 5) (.ofNat 31) e0 e1 e2 = true := by kernel_rfl
end Go.Proofs.YtpdlnijdcgcfbaaDoor.procsetChooses
