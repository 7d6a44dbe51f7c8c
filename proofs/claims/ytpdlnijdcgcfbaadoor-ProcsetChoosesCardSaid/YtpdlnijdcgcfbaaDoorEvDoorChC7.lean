/-
  ProcsetChooses: cases, by the kernel.
-/
import Derived.Test.YtpdlnijdcgcfbaaDoorEvDoorChBase
namespace Go.Proofs.YtpdlnijdcgcfbaaDoor.procsetChooses
open Go Go.Ev Go.RowKit
open Go.Proofs.YtpdlnijdcgcfbaaDoor.Ev
theorem in5_7 (e0 e1 e2 : TypeId) : runs (.ofNat 5) (.ofNat 7) e0 e1 e2 = true := by kernel_rfl
theorem ng5_7 (m : Nat) (e0 e1 e2 : TypeId) : run (.ofNat 5) (.ofNat 7) (.negSucc m) e0 e1 e2 = true := by kernel_rfl
theorem bg5_7 (e0 e1 e2 : TypeId) : runB (.ofNat 5) (.ofNat 7) e0 e1 e2 = true := by kernel_rfl
theorem in5_15 (e0 e1 e2 : TypeId) : runs (.ofNat 5) (.ofNat 15) e0 e1 e2 = true := by kernel_rfl
theorem ng5_15 (m : Nat) (e0 e1 e2 : TypeId) : run (.ofNat 5) (.ofNat 15) (.negSucc m) e0 e1 e2 = true := by kernel_rfl
theorem bg5_15 (e0 e1 e2 : TypeId) : runB (.ofNat 5) (.ofNat 15) e0 e1 e2 = true := by kernel_rfl
end Go.Proofs.YtpdlnijdcgcfbaaDoor.procsetChooses
