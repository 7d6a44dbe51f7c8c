/-
  ProcsetChooses: cases, by the kernel.
-/
import Derived.Test.YtpdlnijdcgcfbaaDoorEvDoorChBase
namespace Go.Proofs.YtpdlnijdcgcfbaaDoor.procsetChooses
open Go Go.Ev Go.RowKit
open Go.Proofs.YtpdlnijdcgcfbaaDoor.Ev
theorem in5_6 (e0 e1 e2 : TypeId) : runs (.ofNat 5) (.ofNat 6) e0 e1 e2 = true := by kernel_rfl
theorem ng5_6 (m : Nat) (e0 e1 e2 : TypeId) : run (.ofNat 5) (.ofNat 6) (.negSucc m) e0 e1 e2 = true := by kernel_rfl
theorem bg5_6 (e0 e1 e2 : TypeId) : runB (.ofNat 5) (.ofNat 6) e0 e1 e2 = true := by kernel_rfl
theorem in5_14 (e0 e1 e2 : TypeId) : runs (.ofNat 5) (.ofNat 14) e0 e1 e2 = true := by kernel_rfl
theorem ng5_14 (m : Nat) (e0 e1 e2 : TypeId) : run (.ofNat 5) (.ofNat 14) (.negSucc m) e0 e1 e2 = true := by kernel_rfl
theorem bg5_14 (e0 e1 e2 : TypeId) : runB (.ofNat 5) (.ofNat 14) e0 e1 e2 = true := by kernel_rfl
theorem in5_22 (e0 e1 e2 : TypeId) : runs (.ofNat 5) (.ofNat 22) e0 e1 e2 = true := by kernel_rfl
theorem ng5_22 (m : Nat) (e0 e1 e2 : TypeId) : run (.ofNat 5) (.ofNat 22) (.negSucc m) e0 e1 e2 = true := by kernel_rfl
theorem bg5_22 (e0 e1 e2 : TypeId) : runB (.ofNat 5) (.ofNat 22) e0 e1 e2 = true := by kernel_rfl
theorem in5_30 (e0 e1 e2 : TypeId) : runs (.ofNat 5) (.ofNat 30) e0 e1 e2 = true := by kernel_rfl
theorem ng5_30 (m : Nat) (e0 e1 e2 : TypeId) : run (.ofNat 5) (.ofNat 30) (.negSucc m) e0 e1 e2 = true := by kernel_rfl
theorem bg5_30 (e0 e1 e2 : TypeId) : runB (.ofNat 5) (.ofNat 30) e0 e1 e2 = true := by kernel_rfl
end Go.Proofs.YtpdlnijdcgcfbaaDoor.procsetChooses
