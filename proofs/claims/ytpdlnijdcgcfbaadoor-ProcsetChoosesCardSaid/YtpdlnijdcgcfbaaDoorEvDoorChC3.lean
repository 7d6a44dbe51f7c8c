/-
  ProcsetChooses: cases, by the kernel.
-/
import Derived.Test.YtpdlnijdcgcfbaaDoorEvDoorChBase
namespace Go.Proofs.YtpdlnijdcgcfbaaDoor.procsetChooses
open Go Go.Ev Go.RowKit
open Go.Proofs.YtpdlnijdcgcfbaaDoor.Ev
theorem in5_3 (e0 e1 e2 : TypeId) : runs (.ofNat 5) (.ofNat 3) e0 e1 e2 = true := by kernel_rfl
theorem ng5_3 (m : Nat) (e0 e1 e2 : TypeId) : run (.ofNat 5) (.ofNat 3) (.negSucc m) e0 e1 e2 = true := by kernel_rfl
theorem bg5_3 (e0 e1 e2 : TypeId) : runB (.ofNat 5) (.ofNat 3) e0 e1 e2 = true := by kernel_rfl
theorem in5_11 (e0 e1 e2 : TypeId) : runs (.ofNat 5) (.ofNat 11) e0 e1 e2 = true := by kernel_rfl
theorem ng5_11 (m : Nat) (e0 e1 e2 : TypeId) : run (.ofNat 5) (.ofNat 11) (.negSucc m) e0 e1 e2 = true := by kernel_rfl
theorem bg5_11 (e0 e1 e2 : TypeId) : runB (.ofNat 5) (.ofNat 11) e0 e1 e2 = true := by kernel_rfl
end Go.Proofs.YtpdlnijdcgcfbaaDoor.procsetChooses
