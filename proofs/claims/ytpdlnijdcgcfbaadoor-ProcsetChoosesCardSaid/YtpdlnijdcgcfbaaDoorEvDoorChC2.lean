/-
  ProcsetChooses: cases, by the kernel.
-/
import Derived.Test.YtpdlnijdcgcfbaaDoorEvDoorChBase
namespace Go.Proofs.YtpdlnijdcgcfbaaDoor.procsetChooses
open Go Go.Ev Go.RowKit
open Go.Proofs.YtpdlnijdcgcfbaaDoor.Ev
theorem in5_2 (e0 e1 e2 : TypeId) : runs (.ofNat 5) (.ofNat 2) e0 e1 e2 = true := by kernel_rfl
theorem ng5_2 (m : Nat) (e0 e1 e2 : TypeId) : run (.ofNat 5) (.ofNat 2) (.negSucc m) e0 e1 e2 = true := by kernel_rfl
theorem bg5_2 (e0 e1 e2 : TypeId) : runB (.ofNat 5) (.ofNat 2) e0 e1 e2 = true := by kernel_rfl
theorem in5_10 (e0 e1 e2 : TypeId) : runs (.ofNat 5) (.ofNat 10) e0 e1 e2 = true := by kernel_rfl
theorem ng5_10 (m : Nat) (e0 e1 e2 : TypeId) : run (.ofNat 5) (.ofNat 10) (.negSucc m) e0 e1 e2 = true := by kernel_rfl
theorem bg5_10 (e0 e1 e2 : TypeId) : runB (.ofNat 5) (.ofNat 10) e0 e1 e2 = true := by kernel_rfl
theorem in5_18 (e0 e1 e2 : TypeId) : runs (.ofNat 5) (.ofNat 18) e0 e1 e2 = true := by kernel_rfl
theorem ng5_18 (m : Nat) (e0 e1 e2 : TypeId) : run (.ofNat 5) (.ofNat 18) (.negSucc m) e0 e1 e2 = true := by kernel_rfl
theorem bg5_18 (e0 e1 e2 : TypeId) : runB (.ofNat 5) (.ofNat 18) e0 e1 e2 = true := by kernel_rfl
theorem in5_26 (e0 e1 e2 : TypeId) : runs (.ofNat 5) (.ofNat 26) e0 e1 e2 = true := by kernel_rfl
theorem ng5_26 (m : Nat) (e0 e1 e2 : TypeId) : run (.ofNat 5) (.ofNat 26) (.negSucc m) e0 e1 e2 = true := by kernel_rfl
theorem bg5_26 (e0 e1 e2 : TypeId) : runB (.ofNat 5) (.ofNat 26) e0 e1 e2 = true := by kernel_rfl
end Go.Proofs.YtpdlnijdcgcfbaaDoor.procsetChooses
