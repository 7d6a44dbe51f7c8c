/-
  ProcsetChooses: cases, by the kernel.
-/
import Derived.Test.YtpdlnijdcgcfbaaDoorEvDoorChBase
namespace Go.Proofs.YtpdlnijdcgcfbaaDoor.procsetChooses
open Go Go.Ev Go.RowKit
open Go.Proofs.YtpdlnijdcgcfbaaDoor.Ev
theorem in5_0 (e0 e1 e2 : TypeId) : runs (.ofNat 5) (.ofNat 0) e0 e1 e2 = true := by kernel_rfl
theorem ng5_0 (m : Nat) (e0 e1 e2 : TypeId) : run (.ofNat 5) (.ofNat 0) (.negSucc m) e0 e1 e2 = true := by kernel_rfl
theorem bg5_0 (e0 e1 e2 : TypeId) : runB (.ofNat 5) (.ofNat 0) e0 e1 e2 = true := by kernel_rfl
theorem in5_8 (e0 e1 e2 : TypeId) : runs (.ofNat 5) (.ofNat 8) e0 e1 e2 = true := by kernel_rfl
theorem ng5_8 (m : Nat) (e0 e1 e2 : TypeId) : run (.ofNat 5) (.ofNat 8) (.negSucc m) e0 e1 e2 = true := by kernel_rfl
theorem bg5_8 (e0 e1 e2 : TypeId) : runB (.ofNat 5) (.ofNat 8) e0 e1 e2 = true := by kernel_rfl
theorem in5_16 (e0 e1 e2 : TypeId) : runs (.ofNat 5) (.ofNat 16) e0 e1 e2 = true := by kernel_rfl
theorem ng5_16 (m : Nat) (e0 e1 e2 : TypeId) : run (.ofNat 5) (.ofNat 16) (.negSucc m) e0 e1 e2 = true := by kernel_rfl
theorem bg5_16 (e0 e1 e2 : TypeId) : runB (.ofNat 5) (.ofNat 16) e0 e1 e2 = true := by kernel_rfl
theorem in5_24 (e0 e1 e2 : TypeId) : runs (.ofNat 5) (.ofNat 24) e0 e1 e2 = true := by kernel_rfl
theorem ng5_24 (m : Nat) (e0 e1 e2 : TypeId) : run (.ofNat 5) (.ofNat 24) (.negSucc m) e0 e1 e2 = true := by kernel_rfl
theorem bg5_24 (e0 e1 e2 : TypeId) : runB (.ofNat 5) (.ofNat 24) e0 e1 e2 = true := by kernel_rfl
end Go.Proofs.YtpdlnijdcgcfbaaDoor.procsetChooses
