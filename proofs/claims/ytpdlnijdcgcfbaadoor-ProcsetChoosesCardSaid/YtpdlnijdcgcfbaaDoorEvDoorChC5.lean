/-
  ProcsetChooses: cases, by the kernel.
-/
import Derived.Test.YtpdlnijdcgcfbaaDoorEvDoorChBase
namespace Go.Proofs.YtpdlnijdcgcfbaaDoor.procsetChooses
open Go Go.Ev Go.RowKit
open Go.Proofs.YtpdlnijdcgcfbaaDoor.Ev
theorem in5_5 (e0 e1 e2 : TypeId) : runs (.ofNat 5) (.ofNat 5) e0 e1 e2 = true := by kernel_rfl
theorem ng5_5 (m : Nat) (e0 e1 e2 : TypeId) : run (.ofNat 5) (.ofNat 5) (.negSucc m) e0 e1 e2 = true := by kernel_rfl
theorem bg5_5 (e0 e1 e2 : TypeId) : runB (.ofNat 5) (.ofNat 5) e0 e1 e2 = true := by kernel_rfl
theorem in5_13 (e0 e1 e2 : TypeId) : runs (.ofNat 5) (.ofNat 13) e0 e1 e2 = true := by kernel_rfl
theorem ng5_13 (m : Nat) (e0 e1 e2 : TypeId) : run (.ofNat 5) (.ofNat 13) (.negSucc m) e0 e1 e2 = true := by kernel_rfl
theorem bg5_13 (e0 e1 e2 : TypeId) : runB (.ofNat 5) (.ofNat 13) e0 e1 e2 = true := by kernel_rfl
theorem in5_21 (e0 e1 e2 : TypeId) : runs (.ofNat 5) (.ofNat 21) e0 e1 e2 = true := by kernel_rfl
theorem ng5_21 (m : Nat) (e0 e1 e2 : TypeId) : run (.ofNat 5) (.ofNat 21) (.negSucc m) e0 e1 e2 = true := by kernel_rfl
theorem bg5_21 (e0 e1 e2 : TypeId) : runB (.ofNat 5) (.ofNat 21) e0 e1 e2 = true := by kernel_rfl
theorem in5_29 (e0 e1 e2 : TypeId) : runs (.ofNat 5) (.ofNat 29) e0 e1 e2 = true := by kernel_rfl
theorem ng5_29 (m : Nat) (e0 e1 e2 : TypeId) : run (.ofNat 5) (.ofNat 29) (.negSucc m) e0 e1 e2 = true := by kernel_rfl
theorem bg5_29 (e0 e1 e2 : TypeId) : runB (.ofNat 5) (.ofNat 29) e0 e1 e2 = true := by kernel_rfl
end Go.Proofs.YtpdlnijdcgcfbaaDoor.procsetChooses
