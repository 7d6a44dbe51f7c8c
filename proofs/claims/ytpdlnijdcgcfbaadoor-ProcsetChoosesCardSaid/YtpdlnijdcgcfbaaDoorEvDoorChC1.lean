/-
  ProcsetChooses: cases, by the kernel.
-/
import Derived.Test.YtpdlnijdcgcfbaaDoorEvDoorChBase
namespace Go.Proofs.YtpdlnijdcgcfbaaDoor.procsetChooses
open Go Go.Ev Go.RowKit
open Go.Proofs.YtpdlnijdcgcfbaaDoor.Ev
theorem in5_1 (e0 e1 e2 : TypeId) : runs (.ofNat 5) (.ofNat 1) e0 e1 e2 = true := by kernel_rfl
theorem ng5_1 (m : Nat) (e0 e1 e2 : TypeId) : run (.ofNat 5) (.ofNat 1) (.negSucc m) e0 e1 e2 = true := by kernel_rfl
theorem bg5_1 (e0 e1 e2 : TypeId) : runB (.ofNat 5) (.ofNat 1) e0 e1 e2 = true := by kernel_rfl
theorem in5_9 (e0 e1 e2 : TypeId) : runs (.ofNat 5) (.ofNat 9) e0 e1 e2 = true := by kernel_rfl
theorem ng5_9 (m : Nat) (e0 e1 e2 : TypeId) : run (.ofNat 5) (.ofNat 9) (.negSucc m) e0 e1 e2 = true := by kernel_rfl
theorem bg5_9 (e0 e1 e2 : TypeId) : runB (.ofNat 5) (.ofNat 9) e0 e1 e2 = true := by kernel_rfl
theorem in5_17 (e0 e1 e2 : TypeId) : runs (.ofNat 5) (.ofNat 17) e0 e1 e2 = true := by kernel_rfl
theorem ng5_17 (m : Nat) (e0 e1 e2 : TypeId) : run (.ofNat 5) (.ofNat 17) (.negSucc m) e0 e1 e2 = true := by kernel_rfl
theorem bg5_17 (e0 e1 e2 : TypeId) : runB (.ofNat 5) (.ofNat 17) e0 e1 e2 = true := by kernel_rfl
theorem in5_25 (e0 e1 e2 : TypeId) : runs (.ofNat 5) (.ofNat 25) e0 e1 e2 = true := by kernel_rfl
theorem ng5_25 (m : Nat) (e0 e1 e2 : TypeId) : run (.ofNat 5) (.ofNat 25) (.negSucc m) e0 e1 e2 = true := by kernel_rfl
theorem bg5_25 (e0 e1 e2 : TypeId) : runB (.ofNat 5) (.ofNat 25) e0 e1 e2 = true := by kernel_rfl
end Go.Proofs.YtpdlnijdcgcfbaaDoor.procsetChooses
