/-
  ProcsetChooses: cases, by the kernel.
-/
import Derived.Test.YtpdlnijdcgcfbaaDoorEvDoorChBase
namespace Go.Proofs.YtpdlnijdcgcfbaaDoor.procsetChooses
open Go Go.Ev Go.RowKit
open Go.Proofs.YtpdlnijdcgcfbaaDoor.Ev
theorem in1_0 (e0 e1 e2 : TypeId) : runs (.ofNat 1) (.ofNat 0) e0 e1 e2 = true := by kernel_rfl
theorem ng1_0 (m : Nat) (e0 e1 e2 : TypeId) : run (.ofNat 1) (.ofNat 0) (.negSucc m) e0 e1 e2 = true := by kernel_rfl
theorem bg1_0 (e0 e1 e2 : TypeId) : runB (.ofNat 1) (.ofNat 0) e0 e1 e2 = true := by kernel_rfl
theorem in1_1 (e0 e1 e2 : TypeId) : runs (.ofNat 1) (.ofNat 1) e0 e1 e2 = true := by kernel_rfl
theorem ng1_1 (m : Nat) (e0 e1 e2 : TypeId) : run (.ofNat 1) (.ofNat 1) (.negSucc m) e0 e1 e2 = true := by kernel_rfl
theorem bg1_1 (e0 e1 e2 : TypeId) : runB (.ofNat 1) (.ofNat 1) e0 e1 e2 = true := by kernel_rfl
theorem in2_0 (e0 e1 e2 : TypeId) : runs (.ofNat 2) (.ofNat 0) e0 e1 e2 = true := by kernel_rfl
theorem ng2_0 (m : Nat) (e0 e1 e2 : TypeId) : run (.ofNat 2) (.ofNat 0) (.negSucc m) e0 e1 e2 = true := by kernel_rfl
theorem bg2_0 (e0 e1 e2 : TypeId) : runB (.ofNat 2) (.ofNat 0) e0 e1 e2 = true := by kernel_rfl
theorem in2_1 (e0 e1 e2 : TypeId) : runs (.ofNat 2) (.ofNat 1) e0 e1 e2 = true := by kernel_rfl
theorem ng2_1 (m : Nat) (e0 e1 e2 : TypeId) : run (.ofNat 2) (.ofNat 1) (.negSucc m) e0 e1 e2 = true := by kernel_rfl
theorem bg2_1 (e0 e1 e2 : TypeId) : runB (.ofNat 2) (.ofNat 1) e0 e1 e2 = true := by kernel_rfl
theorem in2_2 (e0 e1 e2 : TypeId) : runs (.ofNat 2) (.ofNat 2) e0 e1 e2 = true := by kernel_rfl
theorem ng2_2 (m : Nat) (e0 e1 e2 : TypeId) : run (.ofNat 2) (.ofNat 2) (.negSucc m) e0 e1 e2 = true := by kernel_rfl
theorem bg2_2 (e0 e1 e2 : TypeId) : runB (.ofNat 2) (.ofNat 2) e0 e1 e2 = true := by kernel_rfl
theorem in2_3 (e0 e1 e2 : TypeId) : runs (.ofNat 2) (.ofNat 3) e0 e1 e2 = true := by kernel_rfl
theorem ng2_3 (m : Nat) (e0 e1 e2 : TypeId) : run (.ofNat 2) (.ofNat 3) (.negSucc m) e0 e1 e2 = true := by kernel_rfl
theorem bg2_3 (e0 e1 e2 : TypeId) : runB (.ofNat 2) (.ofNat 3) e0 e1 e2 = true := by kernel_rfl
theorem in3_0 (e0 e1 e2 : TypeId) : runs (.ofNat 3) (.ofNat 0) e0 e1 e2 = true := by kernel_rfl
theorem ng3_0 (m : Nat) (e0 e1 e2 : TypeId) : run (.ofNat 3) (.ofNat 0) (.negSucc m) e0 e1 e2 = true := by kernel_rfl
theorem bg3_0 (e0 e1 e2 : TypeId) : runB (.ofNat 3) (.ofNat 0) e0 e1 e2 = true := by kernel_rfl
theorem in3_1 (e0 e1 e2 : TypeId) : runs (.ofNat 3) (.ofNat 1) e0 e1 e2 = true := by kernel_rfl
theorem ng3_1 (m : Nat) (e0 e1 e2 : TypeId) : run (.ofNat 3) (.ofNat 1) (.negSucc m) e0 e1 e2 = true := by kernel_rfl
theorem bg3_1 (e0 e1 e2 : TypeId) : runB (.ofNat 3) (.ofNat 1) e0 e1 e2 = true := by kernel_rfl
theorem in3_2 (e0 e1 e2 : TypeId) : runs (.ofNat 3) (.ofNat 2) e0 e1 e2 = true := by kernel_rfl
theorem ng3_2 (m : Nat) (e0 e1 e2 : TypeId) : run (.ofNat 3) (.ofNat 2) (.negSucc m) e0 e1 e2 = true := by kernel_rfl
theorem bg3_2 (e0 e1 e2 : TypeId) : runB (.ofNat 3) (.ofNat 2) e0 e1 e2 = true := by kernel_rfl
theorem in3_3 (e0 e1 e2 : TypeId) : runs (.ofNat 3) (.ofNat 3) e0 e1 e2 = true := by kernel_rfl
theorem ng3_3 (m : Nat) (e0 e1 e2 : TypeId) : run (.ofNat 3) (.ofNat 3) (.negSucc m) e0 e1 e2 = true := by kernel_rfl
theorem bg3_3 (e0 e1 e2 : TypeId) : runB (.ofNat 3) (.ofNat 3) e0 e1 e2 = true := by kernel_rfl
theorem in3_4 (e0 e1 e2 : TypeId) : runs (.ofNat 3) (.ofNat 4) e0 e1 e2 = true := by kernel_rfl
theorem ng3_4 (m : Nat) (e0 e1 e2 : TypeId) : run (.ofNat 3) (.ofNat 4) (.negSucc m) e0 e1 e2 = true := by kernel_rfl
theorem bg3_4 (e0 e1 e2 : TypeId) : runB (.ofNat 3) (.ofNat 4) e0 e1 e2 = true := by kernel_rfl
theorem in3_5 (e0 e1 e2 : TypeId) : runs (.ofNat 3) (.ofNat 5) e0 e1 e2 = true := by kernel_rfl
theorem ng3_5 (m : Nat) (e0 e1 e2 : TypeId) : run (.ofNat 3) (.ofNat 5) (.negSucc m) e0 e1 e2 = true := by kernel_rfl
theorem bg3_5 (e0 e1 e2 : TypeId) : runB (.ofNat 3) (.ofNat 5) e0 e1 e2 = true := by kernel_rfl
theorem in3_6 (e0 e1 e2 : TypeId) : runs (.ofNat 3) (.ofNat 6) e0 e1 e2 = true := by kernel_rfl
theorem ng3_6 (m : Nat) (e0 e1 e2 : TypeId) : run (.ofNat 3) (.ofNat 6) (.negSucc m) e0 e1 e2 = true := by kernel_rfl
theorem bg3_6 (e0 e1 e2 : TypeId) : runB (.ofNat 3) (.ofNat 6) e0 e1 e2 = true := by kernel_rfl
theorem in3_7 (e0 e1 e2 : TypeId) : runs (.ofNat 3) (.ofNat 7) e0 e1 e2 = true := by kernel_rfl
theorem ng3_7 (m : Nat) (e0 e1 e2 : TypeId) : run (.ofNat 3) (.ofNat 7) (.negSucc m) e0 e1 e2 = true := by kernel_rfl
theorem bg3_7 (e0 e1 e2 : TypeId) : runB (.ofNat 3) (.ofNat 7) e0 e1 e2 = true := by kernel_rfl
end Go.Proofs.YtpdlnijdcgcfbaaDoor.procsetChooses
