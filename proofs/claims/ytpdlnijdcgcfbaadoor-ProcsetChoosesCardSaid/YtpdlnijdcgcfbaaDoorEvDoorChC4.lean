/-
  ProcsetChooses: cases, by the kernel.
-/
import Derived.Test.YtpdlnijdcgcfbaaDoorEvDoorChBase
namespace Go.Proofs.YtpdlnijdcgcfbaaDoor.procsetChooses
open Go Go.Ev Go.RowKit
open Go.Proofs.YtpdlnijdcgcfbaaDoor.Ev
theorem in5_4 (e0 e1 e2 : TypeId) : runs (.ofNat 5) (.ofNat 4) e0 e1 e2 = true := by kernel_rfl
theorem ng5_4 (m : Nat) (e0 e1 e2 : TypeId) : run (.ofNat 5) (.ofNat 4) (.negSucc m) e0 e1 e2 = true := by kernel_rfl
theorem bg5_4 (e0 e1 e2 : TypeId) : runB (.ofNat 5) (.ofNat 4) e0 e1 e2 = true := by kernel_rfl
theorem in5_12 (e0 e1 e2 : TypeId) : runs (.ofNat 5) (.ofNat 12) e0 e1 e2 = true := by kernel_rfl
theorem ng5_12 (m : Nat) (e0 e1 e2 : TypeId) : run (.ofNat 5) (.ofNat 12) (.negSucc m) e0 e1 e2 = true := by kernel_rfl
theorem bg5_12 (e0 e1 e2 : TypeId) : runB (.ofNat 5) (.ofNat 12) e0 e1 e2 = true := by kernel_rfl
theorem in5_20 (e0 e1 e2 : TypeId) : runs (.ofNat 5) (.ofNat 20) e0 e1 e2 = true := by kernel_rfl
theorem ng5_20 (m : Nat) (e0 e1 e2 : TypeId) : run (.ofNat 5) (.ofNat 20) (.negSucc m) e0 e1 e2 = true := by kernel_rfl
theorem bg5_20 (e0 e1 e2 : TypeId) : runB (.ofNat 5) (.ofNat 20) e0 e1 e2 = true := by kernel_rfl
theorem in5_28 (e0 e1 e2 : TypeId) : runs (.ofNat 5) (.ofNat 28) e0 e1 e2 = true := by kernel_rfl
theorem ng5_28 (m : Nat) (e0 e1 e2 : TypeId) : run (.ofNat 5) (.ofNat 28) (.negSucc m) e0 e1 e2 = true := by kernel_rfl
theorem bg5_28 (e0 e1 e2 : TypeId) : runB (.ofNat 5) (.ofNat 28) e0 e1 e2 = true := by kernel_rfl
end Go.Proofs.YtpdlnijdcgcfbaaDoor.procsetChooses
