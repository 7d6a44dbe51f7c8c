/-
  MonitorNames: every case, by the kernel.
-/
import Derived.Test.YtkhcodfngnaokaaEvMonSeat
namespace Go.Proofs.Ytkhcodfngnaokaa.monitorNames
open Go Go.Ev Go.RowKit
open Go.Proofs.Ytkhcodfngnaokaa.Ev
noncomputable def run (a b : Int) : Bool := isTrue ((F.evRec (fast pr1) 50).call 3 [.int .i64 a, .int .i64 b] (tabHp []))
theorem cN_N (m : Nat) (k : Nat) : run (.negSucc m) (.negSucc k) = true := by kernel_rfl
theorem cN_0 (m : Nat)  : run (.negSucc m) (.ofNat 0) = true := by kernel_rfl
theorem cN_1 (m : Nat)  : run (.negSucc m) (.ofNat 1) = true := by kernel_rfl
theorem cN_2 (m : Nat)  : run (.negSucc m) (.ofNat 2) = true := by kernel_rfl
theorem cN_3 (m : Nat)  : run (.negSucc m) (.ofNat 3) = true := by kernel_rfl
theorem cN_4 (m : Nat)  : run (.negSucc m) (.ofNat 4) = true := by kernel_rfl
theorem cN_B (m : Nat) (k : Nat) : run (.negSucc m) (.ofNat (k + 5)) = true := by kernel_rfl
theorem c0_N  (k : Nat) : run (.ofNat 0) (.negSucc k) = true := by kernel_rfl
theorem c0_0   : run (.ofNat 0) (.ofNat 0) = true := by kernel_rfl
theorem c0_1   : run (.ofNat 0) (.ofNat 1) = true := by kernel_rfl
theorem c0_2   : run (.ofNat 0) (.ofNat 2) = true := by kernel_rfl
theorem c0_3   : run (.ofNat 0) (.ofNat 3) = true := by kernel_rfl
theorem c0_4   : run (.ofNat 0) (.ofNat 4) = true := by kernel_rfl
theorem c0_B  (k : Nat) : run (.ofNat 0) (.ofNat (k + 5)) = true := by kernel_rfl
theorem c1_N  (k : Nat) : run (.ofNat 1) (.negSucc k) = true := by kernel_rfl
theorem c1_0   : run (.ofNat 1) (.ofNat 0) = true := by kernel_rfl
theorem c1_1   : run (.ofNat 1) (.ofNat 1) = true := by kernel_rfl
theorem c1_2   : run (.ofNat 1) (.ofNat 2) = true := by kernel_rfl
theorem c1_3   : run (.ofNat 1) (.ofNat 3) = true := by kernel_rfl
theorem c1_4   : run (.ofNat 1) (.ofNat 4) = true := by kernel_rfl
theorem c1_B  (k : Nat) : run (.ofNat 1) (.ofNat (k + 5)) = true := by kernel_rfl
theorem c2_N  (k : Nat) : run (.ofNat 2) (.negSucc k) = true := by kernel_rfl
theorem c2_0   : run (.ofNat 2) (.ofNat 0) = true := by kernel_rfl
theorem c2_1   : run (.ofNat 2) (.ofNat 1) = true := by kernel_rfl
theorem c2_2   : run (.ofNat 2) (.ofNat 2) = true := by kernel_rfl
theorem c2_3   : run (.ofNat 2) (.ofNat 3) = true := by kernel_rfl
theorem c2_4   : run (.ofNat 2) (.ofNat 4) = true := by kernel_rfl
theorem c2_B  (k : Nat) : run (.ofNat 2) (.ofNat (k + 5)) = true := by kernel_rfl
theorem c3_N  (k : Nat) : run (.ofNat 3) (.negSucc k) = true := by kernel_rfl
theorem c3_0   : run (.ofNat 3) (.ofNat 0) = true := by kernel_rfl
theorem c3_1   : run (.ofNat 3) (.ofNat 1) = true := by kernel_rfl
theorem c3_2   : run (.ofNat 3) (.ofNat 2) = true := by kernel_rfl
theorem c3_3   : run (.ofNat 3) (.ofNat 3) = true := by kernel_rfl
theorem c3_4   : run (.ofNat 3) (.ofNat 4) = true := by kernel_rfl
theorem c3_B  (k : Nat) : run (.ofNat 3) (.ofNat (k + 5)) = true := by kernel_rfl
theorem c4_N  (k : Nat) : run (.ofNat 4) (.negSucc k) = true := by kernel_rfl
theorem c4_0   : run (.ofNat 4) (.ofNat 0) = true := by kernel_rfl
theorem c4_1   : run (.ofNat 4) (.ofNat 1) = true := by kernel_rfl
theorem c4_2   : run (.ofNat 4) (.ofNat 2) = true := by kernel_rfl
theorem c4_3   : run (.ofNat 4) (.ofNat 3) = true := by kernel_rfl
theorem c4_4   : run (.ofNat 4) (.ofNat 4) = true := by kernel_rfl
theorem c4_B  (k : Nat) : run (.ofNat 4) (.ofNat (k + 5)) = true := by kernel_rfl
theorem cB_N (m : Nat) (k : Nat) : run (.ofNat (m + 5)) (.negSucc k) = true := by kernel_rfl
theorem cB_0 (m : Nat)  : run (.ofNat (m + 5)) (.ofNat 0) = true := by kernel_rfl
theorem cB_1 (m : Nat)  : run (.ofNat (m + 5)) (.ofNat 1) = true := by kernel_rfl
theorem cB_2 (m : Nat)  : run (.ofNat (m + 5)) (.ofNat 2) = true := by kernel_rfl
theorem cB_3 (m : Nat)  : run (.ofNat (m + 5)) (.ofNat 3) = true := by kernel_rfl
theorem cB_4 (m : Nat)  : run (.ofNat (m + 5)) (.ofNat 4) = true := by kernel_rfl
theorem cB_B (m : Nat) (k : Nat) : run (.ofNat (m + 5)) (.ofNat (k + 5)) = true := by kernel_rfl
theorem all : ∀ a b, run a b = true
  | .negSucc m, .negSucc k => cN_N m k
  | .negSucc m, .ofNat 0 => cN_0 m 
  | .negSucc m, .ofNat 1 => cN_1 m 
  | .negSucc m, .ofNat 2 => cN_2 m 
  | .negSucc m, .ofNat 3 => cN_3 m 
  | .negSucc m, .ofNat 4 => cN_4 m 
  | .negSucc m, .ofNat (k + 5) => cN_B m k
  | .ofNat 0, .negSucc k => c0_N  k
  | .ofNat 0, .ofNat 0 => c0_0  
  | .ofNat 0, .ofNat 1 => c0_1  
  | .ofNat 0, .ofNat 2 => c0_2  
  | .ofNat 0, .ofNat 3 => c0_3  
  | .ofNat 0, .ofNat 4 => c0_4  
  | .ofNat 0, .ofNat (k + 5) => c0_B  k
  | .ofNat 1, .negSucc k => c1_N  k
  | .ofNat 1, .ofNat 0 => c1_0  
  | .ofNat 1, .ofNat 1 => c1_1  
  | .ofNat 1, .ofNat 2 => c1_2  
  | .ofNat 1, .ofNat 3 => c1_3  
  | .ofNat 1, .ofNat 4 => c1_4  
  | .ofNat 1, .ofNat (k + 5) => c1_B  k
  | .ofNat 2, .negSucc k => c2_N  k
  | .ofNat 2, .ofNat 0 => c2_0  
  | .ofNat 2, .ofNat 1 => c2_1  
  | .ofNat 2, .ofNat 2 => c2_2  
  | .ofNat 2, .ofNat 3 => c2_3  
  | .ofNat 2, .ofNat 4 => c2_4  
  | .ofNat 2, .ofNat (k + 5) => c2_B  k
  | .ofNat 3, .negSucc k => c3_N  k
  | .ofNat 3, .ofNat 0 => c3_0  
  | .ofNat 3, .ofNat 1 => c3_1  
  | .ofNat 3, .ofNat 2 => c3_2  
  | .ofNat 3, .ofNat 3 => c3_3  
  | .ofNat 3, .ofNat 4 => c3_4  
  | .ofNat 3, .ofNat (k + 5) => c3_B  k
  | .ofNat 4, .negSucc k => c4_N  k
  | .ofNat 4, .ofNat 0 => c4_0  
  | .ofNat 4, .ofNat 1 => c4_1  
  | .ofNat 4, .ofNat 2 => c4_2  
  | .ofNat 4, .ofNat 3 => c4_3  
  | .ofNat 4, .ofNat 4 => c4_4  
  | .ofNat 4, .ofNat (k + 5) => c4_B  k
  | .ofNat (m + 5), .negSucc k => cB_N m k
  | .ofNat (m + 5), .ofNat 0 => cB_0 m 
  | .ofNat (m + 5), .ofNat 1 => cB_1 m 
  | .ofNat (m + 5), .ofNat 2 => cB_2 m 
  | .ofNat (m + 5), .ofNat 3 => cB_3 m 
  | .ofNat (m + 5), .ofNat 4 => cB_4 m 
  | .ofNat (m + 5), .ofNat (k + 5) => cB_B m k
theorem walk (W : World) (a b : Int) : Calls Try.prog 3 #[.int .i64 a, .int .i64 b] W fun e w' => e = .returned (.bool true) ∧ Below W.heap.size W w' :=
  law (ints2 a b) (all a b) W
#print axioms walk
end Go.Proofs.Ytkhcodfngnaokaa.monitorNames
