/-
  ProcsetChooses: cases, by the kernel.
-/
import Derived.Test.YtpdlnijdcgcfbaaDoorEvDoorChBase
namespace Go.Proofs.YtpdlnijdcgcfbaaDoor.procsetChooses
open Go Go.Ev Go.RowKit
open Go.Proofs.YtpdlnijdcgcfbaaDoor.Ev
theorem in4_0 (e0 e1 e2 : TypeId) : runs (.ofNat 4) (.ofNat 0) e0 e1 e2 = true := by kernel_rfl
theorem ng4_0 (m : Nat) (e0 e1 e2 : TypeId) : run (.ofNat 4) (.ofNat 0) (.negSucc m) e0 e1 e2 = true := by kernel_rfl
theorem bg4_0 (e0 e1 e2 : TypeId) : runB (.ofNat 4) (.ofNat 0) e0 e1 e2 = true := by kernel_rfl
theorem in4_1 (e0 e1 e2 : TypeId) : runs (.ofNat 4) (.ofNat 1) e0 e1 e2 = true := by kernel_rfl
theorem ng4_1 (m : Nat) (e0 e1 e2 : TypeId) : run (.ofNat 4) (.ofNat 1) (.negSucc m) e0 e1 e2 = true := by kernel_rfl
theorem bg4_1 (e0 e1 e2 : TypeId) : runB (.ofNat 4) (.ofNat 1) e0 e1 e2 = true := by kernel_rfl
theorem in4_2 (e0 e1 e2 : TypeId) : runs (.ofNat 4) (.ofNat 2) e0 e1 e2 = true := by kernel_rfl
theorem ng4_2 (m : Nat) (e0 e1 e2 : TypeId) : run (.ofNat 4) (.ofNat 2) (.negSucc m) e0 e1 e2 = true := by kernel_rfl
theorem bg4_2 (e0 e1 e2 : TypeId) : runB (.ofNat 4) (.ofNat 2) e0 e1 e2 = true := by kernel_rfl
theorem in4_3 (e0 e1 e2 : TypeId) : runs (.ofNat 4) (.ofNat 3) e0 e1 e2 = true := by kernel_rfl
theorem ng4_3 (m : Nat) (e0 e1 e2 : TypeId) : run (.ofNat 4) (.ofNat 3) (.negSucc m) e0 e1 e2 = true := by kernel_rfl
theorem bg4_3 (e0 e1 e2 : TypeId) : runB (.ofNat 4) (.ofNat 3) e0 e1 e2 = true := by kernel_rfl
theorem in4_4 (e0 e1 e2 : TypeId) : runs (.ofNat 4) (.ofNat 4) e0 e1 e2 = true := by kernel_rfl
theorem ng4_4 (m : Nat) (e0 e1 e2 : TypeId) : run (.ofNat 4) (.ofNat 4) (.negSucc m) e0 e1 e2 = true := by kernel_rfl
theorem bg4_4 (e0 e1 e2 : TypeId) : runB (.ofNat 4) (.ofNat 4) e0 e1 e2 = true := by kernel_rfl
theorem in4_5 (e0 e1 e2 : TypeId) : runs (.ofNat 4) (.ofNat 5) e0 e1 e2 = true := by kernel_rfl
theorem ng4_5 (m : Nat) (e0 e1 e2 : TypeId) : run (.ofNat 4) (.ofNat 5) (.negSucc m) e0 e1 e2 = true := by kernel_rfl
theorem bg4_5 (e0 e1 e2 : TypeId) : runB (.ofNat 4) (.ofNat 5) e0 e1 e2 = true := by kernel_rfl
theorem in4_6 (e0 e1 e2 : TypeId) : runs (.ofNat 4) (.ofNat 6) e0 e1 e2 = true := by kernel_rfl
theorem ng4_6 (m : Nat) (e0 e1 e2 : TypeId) : run (.ofNat 4) (.ofNat 6) (.negSucc m) e0 e1 e2 = true := by kernel_rfl
theorem bg4_6 (e0 e1 e2 : TypeId) : runB (.ofNat 4) (.ofNat 6) e0 e1 e2 = true := by kernel_rfl
theorem in4_7 (e0 e1 e2 : TypeId) : runs (.ofNat 4) (.ofNat 7) e0 e1 e2 = true := by kernel_rfl
theorem ng4_7 (m : Nat) (e0 e1 e2 : TypeId) : run (.ofNat 4) (.ofNat 7) (.negSucc m) e0 e1 e2 = true := by kernel_rfl
theorem bg4_7 (e0 e1 e2 : TypeId) : runB (.ofNat 4) (.ofNat 7) e0 e1 e2 = true := by kernel_rfl
theorem in4_8 (e0 e1 e2 : TypeId) : runs (.ofNat 4) (.ofNat 8) e0 e1 e2 = true := by kernel_rfl
theorem ng4_8 (m : Nat) (e0 e1 e2 : TypeId) : run (.ofNat 4) (.ofNat 8) (.negSucc m) e0 e1 e2 = true := by kernel_rfl
theorem bg4_8 (e0 e1 e2 : TypeId) : runB (.ofNat 4) (.ofNat 8) e0 e1 e2 = true := by kernel_rfl
theorem in4_9 (e0 e1 e2 : TypeId) : runs (.ofNat 4) (.ofNat 9) e0 e1 e2 = true := by kernel_rfl
theorem ng4_9 (m : Nat) (e0 e1 e2 : TypeId) : run (.ofNat 4) (.ofNat 9) (.negSucc m) e0 e1 e2 = true := by kernel_rfl
theorem bg4_9 (e0 e1 e2 : TypeId) : runB (.ofNat 4) (.ofNat 9) e0 e1 e2 = true := by kernel_rfl
theorem in4_10 (e0 e1 e2 : TypeId) : runs (.ofNat 4) (.ofNat 10) e0 e1 e2 = true := by kernel_rfl
theorem ng4_10 (m : Nat) (e0 e1 e2 : TypeId) : run (.ofNat 4) (.ofNat 10) (.negSucc m) e0 e1 e2 = true := by kernel_rfl
theorem bg4_10 (e0 e1 e2 : TypeId) : runB (.ofNat 4) (.ofNat 10) e0 e1 e2 = true := by kernel_rfl
theorem in4_11 (e0 e1 e2 : TypeId) : runs (.ofNat 4) (.ofNat 11) e0 e1 e2 = true := by kernel_rfl
theorem ng4_11 (m : Nat) (e0 e1 e2 : TypeId) : run (.ofNat 4) (.ofNat 11) (.negSucc m) e0 e1 e2 = true := by kernel_rfl
theorem bg4_11 (e0 e1 e2 : TypeId) : runB (.ofNat 4) (.ofNat 11) e0 e1 e2 = true := by kernel_rfl
theorem in4_12 (e0 e1 e2 : TypeId) : runs (.ofNat 4) (.ofNat 12) e0 e1 e2 = true := by kernel_rfl
theorem ng4_12 (m : Nat) (e0 e1 e2 : TypeId) : run (.ofNat 4) (.ofNat 12) (.negSucc m) e0 e1 e2 = true := by kernel_rfl
theorem bg4_12 (e0 e1 e2 : TypeId) : runB (.ofNat 4) (.ofNat 12) e0 e1 e2 = true := by kernel_rfl
theorem in4_13 (e0 e1 e2 : TypeId) : runs (.ofNat 4) (.ofNat 13) e0 e1 e2 = true := by kernel_rfl
theorem ng4_13 (m : Nat) (e0 e1 e2 : TypeId) : run (.ofNat 4) (.ofNat 13) (.negSucc m) e0 e1 e2 = true := by kernel_rfl
theorem bg4_13 (e0 e1 e2 : TypeId) : runB (.ofNat 4) (.ofNat 13) e0 e1 e2 = true := by kernel_rfl
theorem in4_14 (e0 e1 e2 : TypeId) : runs (.ofNat 4) (.ofNat 14) e0 e1 e2 = true := by kernel_rfl
theorem ng4_14 (m : Nat) (e0 e1 e2 : TypeId) : run (.ofNat 4) (.ofNat 14) (.negSucc m) e0 e1 e2 = true := by kernel_rfl
theorem bg4_14 (e0 e1 e2 : TypeId) : runB (.ofNat 4) (.ofNat 14) e0 e1 e2 = true := by kernel_rfl
theorem in4_15 (e0 e1 e2 : TypeId) : runs (.ofNat 4) (.ofNat 15) e0 e1 e2 = true := by kernel_rfl
theorem ng4_15 (m : Nat) (e0 e1 e2 : TypeId) : run (.ofNat 4) (.ofNat 15) (.negSucc m) e0 e1 e2 = true := by kernel_rfl
theorem bg4_15 (e0 e1 e2 : TypeId) : runB (.ofNat 4) (.ofNat 15) e0 e1 e2 = true := by kernel_rfl
end Go.Proofs.YtpdlnijdcgcfbaaDoor.procsetChooses
