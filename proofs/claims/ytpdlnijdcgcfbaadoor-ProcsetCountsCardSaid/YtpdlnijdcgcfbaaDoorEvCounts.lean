/-
  ProcsetCounts: every case, by the kernel.
-/
import Derived.Test.YtpdlnijdcgcfbaaDoorEvCntA
import Derived.Test.YtpdlnijdcgcfbaaDoorEvCntB
import Derived.Test.YtpdlnijdcgcfbaaDoorEvCntC
import Derived.Test.YtpdlnijdcgcfbaaDoorEvCntD
namespace Go.Proofs.YtpdlnijdcgcfbaaDoor.procsetCounts
open Go Go.Ev Go.RowKit
open Go.Proofs.YtpdlnijdcgcfbaaDoor.Ev
theorem caseA (m : Nat) (b : Int) (e0 e1 e2 : TypeId) : run (.negSucc m) b e0 e1 e2 = true := by kernel_rfl
theorem caseB (b : Int) (e0 e1 e2 : TypeId) : run (.ofNat 0) b e0 e1 e2 = true := by kernel_rfl
theorem caseC (m : Nat) (b : Int) (e0 e1 e2 : TypeId) : run (.ofNat (m + 6)) b e0 e1 e2 = true := by kernel_rfl
theorem caseD1 (m : Nat) (e0 e1 e2 : TypeId) : run (.ofNat 1) (.negSucc m) e0 e1 e2 = true := by kernel_rfl
theorem caseE1 (m : Nat) (e0 e1 e2 : TypeId) : run (.ofNat 1) (.ofNat (m + 2)) e0 e1 e2 = true := by kernel_rfl
theorem caseF1_0 (e0 e1 e2 : TypeId) : run (.ofNat 1) (.ofNat 0) e0 e1 e2 = true := by kernel_rfl
theorem caseF1_1 (e0 e1 e2 : TypeId) : run (.ofNat 1) (.ofNat 1) e0 e1 e2 = true := by kernel_rfl
theorem caseF1 (e0 e1 e2 : TypeId) : ∀ s, s < 2 → run (.ofNat 1) (.ofNat s) e0 e1 e2 = true
  | 0, _ => caseF1_0 e0 e1 e2
  | 1, _ => caseF1_1 e0 e1 e2
  | n + 2, h => absurd h (by omega)
theorem caseD2 (m : Nat) (e0 e1 e2 : TypeId) : run (.ofNat 2) (.negSucc m) e0 e1 e2 = true := by kernel_rfl
theorem caseE2 (m : Nat) (e0 e1 e2 : TypeId) : run (.ofNat 2) (.ofNat (m + 4)) e0 e1 e2 = true := by kernel_rfl
theorem caseF2_0 (e0 e1 e2 : TypeId) : run (.ofNat 2) (.ofNat 0) e0 e1 e2 = true := by kernel_rfl
theorem caseF2_1 (e0 e1 e2 : TypeId) : run (.ofNat 2) (.ofNat 1) e0 e1 e2 = true := by kernel_rfl
theorem caseF2_2 (e0 e1 e2 : TypeId) : run (.ofNat 2) (.ofNat 2) e0 e1 e2 = true := by kernel_rfl
theorem caseF2_3 (e0 e1 e2 : TypeId) : run (.ofNat 2) (.ofNat 3) e0 e1 e2 = true := by kernel_rfl
theorem caseF2 (e0 e1 e2 : TypeId) : ∀ s, s < 4 → run (.ofNat 2) (.ofNat s) e0 e1 e2 = true
  | 0, _ => caseF2_0 e0 e1 e2
  | 1, _ => caseF2_1 e0 e1 e2
  | 2, _ => caseF2_2 e0 e1 e2
  | 3, _ => caseF2_3 e0 e1 e2
  | n + 4, h => absurd h (by omega)
theorem caseD3 (m : Nat) (e0 e1 e2 : TypeId) : run (.ofNat 3) (.negSucc m) e0 e1 e2 = true := by kernel_rfl
theorem caseE3 (m : Nat) (e0 e1 e2 : TypeId) : run (.ofNat 3) (.ofNat (m + 8)) e0 e1 e2 = true := by kernel_rfl
theorem caseF3_0 (e0 e1 e2 : TypeId) : run (.ofNat 3) (.ofNat 0) e0 e1 e2 = true := by kernel_rfl
theorem caseF3_1 (e0 e1 e2 : TypeId) : run (.ofNat 3) (.ofNat 1) e0 e1 e2 = true := by kernel_rfl
theorem caseF3_2 (e0 e1 e2 : TypeId) : run (.ofNat 3) (.ofNat 2) e0 e1 e2 = true := by kernel_rfl
theorem caseF3_3 (e0 e1 e2 : TypeId) : run (.ofNat 3) (.ofNat 3) e0 e1 e2 = true := by kernel_rfl
theorem caseF3_4 (e0 e1 e2 : TypeId) : run (.ofNat 3) (.ofNat 4) e0 e1 e2 = true := by kernel_rfl
theorem caseF3_5 (e0 e1 e2 : TypeId) : run (.ofNat 3) (.ofNat 5) e0 e1 e2 = true := by kernel_rfl
theorem caseF3_6 (e0 e1 e2 : TypeId) : run (.ofNat 3) (.ofNat 6) e0 e1 e2 = true := by kernel_rfl
theorem caseF3_7 (e0 e1 e2 : TypeId) : run (.ofNat 3) (.ofNat 7) e0 e1 e2 = true := by kernel_rfl
theorem caseF3 (e0 e1 e2 : TypeId) : ∀ s, s < 8 → run (.ofNat 3) (.ofNat s) e0 e1 e2 = true
  | 0, _ => caseF3_0 e0 e1 e2
  | 1, _ => caseF3_1 e0 e1 e2
  | 2, _ => caseF3_2 e0 e1 e2
  | 3, _ => caseF3_3 e0 e1 e2
  | 4, _ => caseF3_4 e0 e1 e2
  | 5, _ => caseF3_5 e0 e1 e2
  | 6, _ => caseF3_6 e0 e1 e2
  | 7, _ => caseF3_7 e0 e1 e2
  | n + 8, h => absurd h (by omega)
theorem caseD4 (m : Nat) (e0 e1 e2 : TypeId) : run (.ofNat 4) (.negSucc m) e0 e1 e2 = true := by kernel_rfl
theorem caseE4 (m : Nat) (e0 e1 e2 : TypeId) : run (.ofNat 4) (.ofNat (m + 16)) e0 e1 e2 = true := by kernel_rfl
theorem caseF4_0 (e0 e1 e2 : TypeId) : run (.ofNat 4) (.ofNat 0) e0 e1 e2 = true := by kernel_rfl
theorem caseF4_1 (e0 e1 e2 : TypeId) : run (.ofNat 4) (.ofNat 1) e0 e1 e2 = true := by kernel_rfl
theorem caseF4_2 (e0 e1 e2 : TypeId) : run (.ofNat 4) (.ofNat 2) e0 e1 e2 = true := by kernel_rfl
theorem caseF4_3 (e0 e1 e2 : TypeId) : run (.ofNat 4) (.ofNat 3) e0 e1 e2 = true := by kernel_rfl
theorem caseF4_4 (e0 e1 e2 : TypeId) : run (.ofNat 4) (.ofNat 4) e0 e1 e2 = true := by kernel_rfl
theorem caseF4_5 (e0 e1 e2 : TypeId) : run (.ofNat 4) (.ofNat 5) e0 e1 e2 = true := by kernel_rfl
theorem caseF4_6 (e0 e1 e2 : TypeId) : run (.ofNat 4) (.ofNat 6) e0 e1 e2 = true := by kernel_rfl
theorem caseF4_7 (e0 e1 e2 : TypeId) : run (.ofNat 4) (.ofNat 7) e0 e1 e2 = true := by kernel_rfl
theorem caseF4_8 (e0 e1 e2 : TypeId) : run (.ofNat 4) (.ofNat 8) e0 e1 e2 = true := by kernel_rfl
theorem caseF4_9 (e0 e1 e2 : TypeId) : run (.ofNat 4) (.ofNat 9) e0 e1 e2 = true := by kernel_rfl
theorem caseF4_10 (e0 e1 e2 : TypeId) : run (.ofNat 4) (.ofNat 10) e0 e1 e2 = true := by kernel_rfl
theorem caseF4_11 (e0 e1 e2 : TypeId) : run (.ofNat 4) (.ofNat 11) e0 e1 e2 = true := by kernel_rfl
theorem caseF4_12 (e0 e1 e2 : TypeId) : run (.ofNat 4) (.ofNat 12) e0 e1 e2 = true := by kernel_rfl
theorem caseF4_13 (e0 e1 e2 : TypeId) : run (.ofNat 4) (.ofNat 13) e0 e1 e2 = true := by kernel_rfl
theorem caseF4_14 (e0 e1 e2 : TypeId) : run (.ofNat 4) (.ofNat 14) e0 e1 e2 = true := by kernel_rfl
theorem caseF4_15 (e0 e1 e2 : TypeId) : run (.ofNat 4) (.ofNat 15) e0 e1 e2 = true := by kernel_rfl
theorem caseF4 (e0 e1 e2 : TypeId) : ∀ s, s < 16 → run (.ofNat 4) (.ofNat s) e0 e1 e2 = true
  | 0, _ => caseF4_0 e0 e1 e2
  | 1, _ => caseF4_1 e0 e1 e2
  | 2, _ => caseF4_2 e0 e1 e2
  | 3, _ => caseF4_3 e0 e1 e2
  | 4, _ => caseF4_4 e0 e1 e2
  | 5, _ => caseF4_5 e0 e1 e2
  | 6, _ => caseF4_6 e0 e1 e2
  | 7, _ => caseF4_7 e0 e1 e2
  | 8, _ => caseF4_8 e0 e1 e2
  | 9, _ => caseF4_9 e0 e1 e2
  | 10, _ => caseF4_10 e0 e1 e2
  | 11, _ => caseF4_11 e0 e1 e2
  | 12, _ => caseF4_12 e0 e1 e2
  | 13, _ => caseF4_13 e0 e1 e2
  | 14, _ => caseF4_14 e0 e1 e2
  | 15, _ => caseF4_15 e0 e1 e2
  | n + 16, h => absurd h (by omega)
theorem caseD5 (m : Nat) (e0 e1 e2 : TypeId) : run (.ofNat 5) (.negSucc m) e0 e1 e2 = true := by kernel_rfl
theorem caseE5 (m : Nat) (e0 e1 e2 : TypeId) : run (.ofNat 5) (.ofNat (m + 32)) e0 e1 e2 = true := by kernel_rfl
theorem caseF5 (e0 e1 e2 : TypeId) : ∀ s, s < 32 → run (.ofNat 5) (.ofNat s) e0 e1 e2 = true
  | 0, _ => caseF5_0 e0 e1 e2
  | 1, _ => caseF5_1 e0 e1 e2
  | 2, _ => caseF5_2 e0 e1 e2
  | 3, _ => caseF5_3 e0 e1 e2
  | 4, _ => caseF5_4 e0 e1 e2
  | 5, _ => caseF5_5 e0 e1 e2
  | 6, _ => caseF5_6 e0 e1 e2
  | 7, _ => caseF5_7 e0 e1 e2
  | 8, _ => caseF5_8 e0 e1 e2
  | 9, _ => caseF5_9 e0 e1 e2
  | 10, _ => caseF5_10 e0 e1 e2
  | 11, _ => caseF5_11 e0 e1 e2
  | 12, _ => caseF5_12 e0 e1 e2
  | 13, _ => caseF5_13 e0 e1 e2
  | 14, _ => caseF5_14 e0 e1 e2
  | 15, _ => caseF5_15 e0 e1 e2
  | 16, _ => caseF5_16 e0 e1 e2
  | 17, _ => caseF5_17 e0 e1 e2
  | 18, _ => caseF5_18 e0 e1 e2
  | 19, _ => caseF5_19 e0 e1 e2
  | 20, _ => caseF5_20 e0 e1 e2
  | 21, _ => caseF5_21 e0 e1 e2
  | 22, _ => caseF5_22 e0 e1 e2
  | 23, _ => caseF5_23 e0 e1 e2
  | 24, _ => caseF5_24 e0 e1 e2
  | 25, _ => caseF5_25 e0 e1 e2
  | 26, _ => caseF5_26 e0 e1 e2
  | 27, _ => caseF5_27 e0 e1 e2
  | 28, _ => caseF5_28 e0 e1 e2
  | 29, _ => caseF5_29 e0 e1 e2
  | 30, _ => caseF5_30 e0 e1 e2
  | 31, _ => caseF5_31 e0 e1 e2
  | n + 32, h => absurd h (by omega)
theorem sets {k : Nat} {m : Nat} {e0 e1 e2 : TypeId} (hD : ∀ j, run (.ofNat k) (.negSucc j) e0 e1 e2 = true) (hE : ∀ j, run (.ofNat k) (.ofNat (j + m)) e0 e1 e2 = true)
    (hF : ∀ s, s < m → run (.ofNat k) (.ofNat s) e0 e1 e2 = true) : ∀ b, run (.ofNat k) b e0 e1 e2 = true
  | .negSucc j => hD j
  | .ofNat s => by
    rcases Nat.lt_or_ge s m with h | h
    · exact hF s h
    · obtain ⟨j, rfl⟩ : ∃ j, s = j + m := ⟨s - m, by omega⟩
      exact hE j
theorem all (e0 e1 e2 : TypeId) : ∀ a b, run a b e0 e1 e2 = true
  | .negSucc m, b => caseA m b e0 e1 e2
  | .ofNat 0, b => caseB b e0 e1 e2
  | .ofNat 1, b => sets (fun j => caseD1 j e0 e1 e2) (fun j => caseE1 j e0 e1 e2) (caseF1 e0 e1 e2) b
  | .ofNat 2, b => sets (fun j => caseD2 j e0 e1 e2) (fun j => caseE2 j e0 e1 e2) (caseF2 e0 e1 e2) b
  | .ofNat 3, b => sets (fun j => caseD3 j e0 e1 e2) (fun j => caseE3 j e0 e1 e2) (caseF3 e0 e1 e2) b
  | .ofNat 4, b => sets (fun j => caseD4 j e0 e1 e2) (fun j => caseE4 j e0 e1 e2) (caseF4 e0 e1 e2) b
  | .ofNat 5, b => sets (fun j => caseD5 j e0 e1 e2) (fun j => caseE5 j e0 e1 e2) (caseF5 e0 e1 e2) b
  | .ofNat (m + 6), b => caseC m b e0 e1 e2
theorem walk {W : World} {e0 e1 e2 : TypeId} (H : Held W (tabs e0 e1 e2)) (a b : Int) : Calls Tryd.prog 8 #[.int .i64 a, .int .i64 b] W fun e w' => e = .returned (.bool true) ∧ Below W.heap.size W w' :=
  lawF (ints2 a b) (fun e0 e1 e2 => all e0 e1 e2 a b) H
#print axioms walk
end Go.Proofs.YtpdlnijdcgcfbaaDoor.procsetCounts
