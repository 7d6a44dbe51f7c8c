/-
  ProcsetMirrors: every case, by the kernel.
-/
import Derived.Test.YtpdlnijdcgcfbaaDoorEvMirA
import Derived.Test.YtpdlnijdcgcfbaaDoorEvMirB
import Derived.Test.YtpdlnijdcgcfbaaDoorEvMirC
namespace Go.Proofs.YtpdlnijdcgcfbaaDoor.procsetMirrors
open Go Go.Ev Go.RowKit
open Go.Proofs.YtpdlnijdcgcfbaaDoor.Ev
theorem caseA (m : Nat) (b k : Int) (e0 e1 e2 : TypeId) : run (.negSucc m) b k e0 e1 e2 = true := by kernel_rfl
theorem caseB (b k : Int) (e0 e1 e2 : TypeId) : run (.ofNat 0) b k e0 e1 e2 = true := by kernel_rfl
theorem caseC (m : Nat) (b k : Int) (e0 e1 e2 : TypeId) : run (.ofNat (m + 6)) b k e0 e1 e2 = true := by kernel_rfl
theorem caseD1 (m : Nat) (k : Int) (e0 e1 e2 : TypeId) : run (.ofNat 1) (.negSucc m) k e0 e1 e2 = true := by kernel_rfl
theorem caseE1 (m : Nat) (k : Int) (e0 e1 e2 : TypeId) : run (.ofNat 1) (.ofNat (m + 2)) k e0 e1 e2 = true := by kernel_rfl
theorem caseF1 (k : Int) (e0 e1 e2 : TypeId) : ∀ s, s < 2 → run (.ofNat 1) (.ofNat s) k e0 e1 e2 = true
  | 0, _ => in1_0 e0 e1 e2 k
  | 1, _ => in1_1 e0 e1 e2 k
  | j + 2, h => absurd h (by omega)
theorem caseD2 (m : Nat) (k : Int) (e0 e1 e2 : TypeId) : run (.ofNat 2) (.negSucc m) k e0 e1 e2 = true := by kernel_rfl
theorem caseE2 (m : Nat) (k : Int) (e0 e1 e2 : TypeId) : run (.ofNat 2) (.ofNat (m + 4)) k e0 e1 e2 = true := by kernel_rfl
theorem caseF2 (k : Int) (e0 e1 e2 : TypeId) : ∀ s, s < 4 → run (.ofNat 2) (.ofNat s) k e0 e1 e2 = true
  | 0, _ => in2_0 e0 e1 e2 k
  | 1, _ => in2_1 e0 e1 e2 k
  | 2, _ => in2_2 e0 e1 e2 k
  | 3, _ => in2_3 e0 e1 e2 k
  | j + 4, h => absurd h (by omega)
theorem caseD3 (m : Nat) (k : Int) (e0 e1 e2 : TypeId) : run (.ofNat 3) (.negSucc m) k e0 e1 e2 = true := by kernel_rfl
theorem caseE3 (m : Nat) (k : Int) (e0 e1 e2 : TypeId) : run (.ofNat 3) (.ofNat (m + 8)) k e0 e1 e2 = true := by kernel_rfl
theorem caseF3 (k : Int) (e0 e1 e2 : TypeId) : ∀ s, s < 8 → run (.ofNat 3) (.ofNat s) k e0 e1 e2 = true
  | 0, _ => in3_0 e0 e1 e2 k
  | 1, _ => in3_1 e0 e1 e2 k
  | 2, _ => in3_2 e0 e1 e2 k
  | 3, _ => in3_3 e0 e1 e2 k
  | 4, _ => in3_4 e0 e1 e2 k
  | 5, _ => in3_5 e0 e1 e2 k
  | 6, _ => in3_6 e0 e1 e2 k
  | 7, _ => in3_7 e0 e1 e2 k
  | j + 8, h => absurd h (by omega)
theorem caseD4 (m : Nat) (k : Int) (e0 e1 e2 : TypeId) : run (.ofNat 4) (.negSucc m) k e0 e1 e2 = true := by kernel_rfl
theorem caseE4 (m : Nat) (k : Int) (e0 e1 e2 : TypeId) : run (.ofNat 4) (.ofNat (m + 16)) k e0 e1 e2 = true := by kernel_rfl
theorem caseF4 (k : Int) (e0 e1 e2 : TypeId) : ∀ s, s < 16 → run (.ofNat 4) (.ofNat s) k e0 e1 e2 = true
  | 0, _ => in4_0 e0 e1 e2 k
  | 1, _ => in4_1 e0 e1 e2 k
  | 2, _ => in4_2 e0 e1 e2 k
  | 3, _ => in4_3 e0 e1 e2 k
  | 4, _ => in4_4 e0 e1 e2 k
  | 5, _ => in4_5 e0 e1 e2 k
  | 6, _ => in4_6 e0 e1 e2 k
  | 7, _ => in4_7 e0 e1 e2 k
  | 8, _ => in4_8 e0 e1 e2 k
  | 9, _ => in4_9 e0 e1 e2 k
  | 10, _ => in4_10 e0 e1 e2 k
  | 11, _ => in4_11 e0 e1 e2 k
  | 12, _ => in4_12 e0 e1 e2 k
  | 13, _ => in4_13 e0 e1 e2 k
  | 14, _ => in4_14 e0 e1 e2 k
  | 15, _ => in4_15 e0 e1 e2 k
  | j + 16, h => absurd h (by omega)
theorem caseD5 (m : Nat) (k : Int) (e0 e1 e2 : TypeId) : run (.ofNat 5) (.negSucc m) k e0 e1 e2 = true := by kernel_rfl
theorem caseE5 (m : Nat) (k : Int) (e0 e1 e2 : TypeId) : run (.ofNat 5) (.ofNat (m + 32)) k e0 e1 e2 = true := by kernel_rfl
theorem caseF5 (k : Int) (e0 e1 e2 : TypeId) : ∀ s, s < 32 → run (.ofNat 5) (.ofNat s) k e0 e1 e2 = true
  | 0, _ => in5_0 e0 e1 e2 k
  | 1, _ => in5_1 e0 e1 e2 k
  | 2, _ => in5_2 e0 e1 e2 k
  | 3, _ => in5_3 e0 e1 e2 k
  | 4, _ => in5_4 e0 e1 e2 k
  | 5, _ => in5_5 e0 e1 e2 k
  | 6, _ => in5_6 e0 e1 e2 k
  | 7, _ => in5_7 e0 e1 e2 k
  | 8, _ => in5_8 e0 e1 e2 k
  | 9, _ => in5_9 e0 e1 e2 k
  | 10, _ => in5_10 e0 e1 e2 k
  | 11, _ => in5_11 e0 e1 e2 k
  | 12, _ => in5_12 e0 e1 e2 k
  | 13, _ => in5_13 e0 e1 e2 k
  | 14, _ => in5_14 e0 e1 e2 k
  | 15, _ => in5_15 e0 e1 e2 k
  | 16, _ => in5_16 e0 e1 e2 k
  | 17, _ => in5_17 e0 e1 e2 k
  | 18, _ => in5_18 e0 e1 e2 k
  | 19, _ => in5_19 e0 e1 e2 k
  | 20, _ => in5_20 e0 e1 e2 k
  | 21, _ => in5_21 e0 e1 e2 k
  | 22, _ => in5_22 e0 e1 e2 k
  | 23, _ => in5_23 e0 e1 e2 k
  | 24, _ => in5_24 e0 e1 e2 k
  | 25, _ => in5_25 e0 e1 e2 k
  | 26, _ => in5_26 e0 e1 e2 k
  | 27, _ => in5_27 e0 e1 e2 k
  | 28, _ => in5_28 e0 e1 e2 k
  | 29, _ => in5_29 e0 e1 e2 k
  | 30, _ => in5_30 e0 e1 e2 k
  | 31, _ => in5_31 e0 e1 e2 k
  | j + 32, h => absurd h (by omega)
theorem all (e0 e1 e2 : TypeId) : ∀ a b k, run a b k e0 e1 e2 = true
  | .negSucc m, b, k => caseA m b k e0 e1 e2
  | .ofNat 0, b, k => caseB b k e0 e1 e2
  | .ofNat 1, b, k => sets (fun j => caseD1 j k e0 e1 e2) (fun j => caseE1 j k e0 e1 e2) (caseF1 k e0 e1 e2) b
  | .ofNat 2, b, k => sets (fun j => caseD2 j k e0 e1 e2) (fun j => caseE2 j k e0 e1 e2) (caseF2 k e0 e1 e2) b
  | .ofNat 3, b, k => sets (fun j => caseD3 j k e0 e1 e2) (fun j => caseE3 j k e0 e1 e2) (caseF3 k e0 e1 e2) b
  | .ofNat 4, b, k => sets (fun j => caseD4 j k e0 e1 e2) (fun j => caseE4 j k e0 e1 e2) (caseF4 k e0 e1 e2) b
  | .ofNat 5, b, k => sets (fun j => caseD5 j k e0 e1 e2) (fun j => caseE5 j k e0 e1 e2) (caseF5 k e0 e1 e2) b
  | .ofNat (m + 6), b, k => caseC m b k e0 e1 e2
theorem walk {W : World} {e0 e1 e2 : TypeId} (H : Held W (tabs e0 e1 e2)) (a b k : Int) : Calls Tryd.prog 9 #[.int .i64 a, .int .i64 b, .int .i64 k] W fun e w' => e = .returned (.bool true) ∧ Below W.heap.size W w' :=
  law (fun _ => .cons (.int _ _) (.cons (.int _ _) (.cons (.int _ _) .nil))) (fun e0 e1 e2 => all e0 e1 e2 a b k) H
#print axioms walk
end Go.Proofs.YtpdlnijdcgcfbaaDoor.procsetMirrors
