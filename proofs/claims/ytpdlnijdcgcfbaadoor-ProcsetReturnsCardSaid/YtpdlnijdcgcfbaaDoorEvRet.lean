/-
  ProcsetReturns.
-/
import Derived.Test.YtpdlnijdcgcfbaaDoorEvSeat
namespace Go.Proofs.YtpdlnijdcgcfbaaDoor.Ev
open Go Go.Ev Go.RowKit
noncomputable def run2 (f : FuncId) (a b : Int) (e0 e1 e2 : TypeId) : Bool := isTrue ((evRec (cfg pr1) 50).call f [.int .i64 a, .int .i64 b] (tabHp (tabs e0 e1 e2)))
theorem retA (m : Nat) (b : Int) (e0 e1 e2 : TypeId) : run2 7 (.negSucc m) b e0 e1 e2 = true := by kernel_rfl
theorem retB (b : Int) (e0 e1 e2 : TypeId) : run2 7 (.ofNat 0) b e0 e1 e2 = true := by kernel_rfl
theorem retC (m : Nat) (b : Int) (e0 e1 e2 : TypeId) : run2 7 (.ofNat (m + 6)) b e0 e1 e2 = true := by kernel_rfl
theorem retD1 (m : Nat) (e0 e1 e2 : TypeId) : run2 7 (.ofNat 1) (.negSucc m) e0 e1 e2 = true := by kernel_rfl
theorem retE1 (m : Nat) (e0 e1 e2 : TypeId) : run2 7 (.ofNat 1) (.ofNat (m + 2)) e0 e1 e2 = true := by kernel_rfl
theorem retF1_0 (e0 e1 e2 : TypeId) : run2 7 (.ofNat 1) (.ofNat 0) e0 e1 e2 = true := by kernel_rfl
theorem retF1_1 (e0 e1 e2 : TypeId) : run2 7 (.ofNat 1) (.ofNat 1) e0 e1 e2 = true := by kernel_rfl
theorem retF1 (e0 e1 e2 : TypeId) : ∀ s, s < 2 → run2 7 (.ofNat 1) (.ofNat s) e0 e1 e2 = true
  | 0, _ => retF1_0 e0 e1 e2
  | 1, _ => retF1_1 e0 e1 e2
  | n + 2, h => absurd h (by omega)
theorem retD2 (m : Nat) (e0 e1 e2 : TypeId) : run2 7 (.ofNat 2) (.negSucc m) e0 e1 e2 = true := by kernel_rfl
theorem retE2 (m : Nat) (e0 e1 e2 : TypeId) : run2 7 (.ofNat 2) (.ofNat (m + 4)) e0 e1 e2 = true := by kernel_rfl
theorem retF2_0 (e0 e1 e2 : TypeId) : run2 7 (.ofNat 2) (.ofNat 0) e0 e1 e2 = true := by kernel_rfl
theorem retF2_1 (e0 e1 e2 : TypeId) : run2 7 (.ofNat 2) (.ofNat 1) e0 e1 e2 = true := by kernel_rfl
theorem retF2_2 (e0 e1 e2 : TypeId) : run2 7 (.ofNat 2) (.ofNat 2) e0 e1 e2 = true := by kernel_rfl
theorem retF2_3 (e0 e1 e2 : TypeId) : run2 7 (.ofNat 2) (.ofNat 3) e0 e1 e2 = true := by kernel_rfl
theorem retF2 (e0 e1 e2 : TypeId) : ∀ s, s < 4 → run2 7 (.ofNat 2) (.ofNat s) e0 e1 e2 = true
  | 0, _ => retF2_0 e0 e1 e2
  | 1, _ => retF2_1 e0 e1 e2
  | 2, _ => retF2_2 e0 e1 e2
  | 3, _ => retF2_3 e0 e1 e2
  | n + 4, h => absurd h (by omega)
theorem retD3 (m : Nat) (e0 e1 e2 : TypeId) : run2 7 (.ofNat 3) (.negSucc m) e0 e1 e2 = true := by kernel_rfl
theorem retE3 (m : Nat) (e0 e1 e2 : TypeId) : run2 7 (.ofNat 3) (.ofNat (m + 8)) e0 e1 e2 = true := by kernel_rfl
theorem retF3_0 (e0 e1 e2 : TypeId) : run2 7 (.ofNat 3) (.ofNat 0) e0 e1 e2 = true := by kernel_rfl
theorem retF3_1 (e0 e1 e2 : TypeId) : run2 7 (.ofNat 3) (.ofNat 1) e0 e1 e2 = true := by kernel_rfl
theorem retF3_2 (e0 e1 e2 : TypeId) : run2 7 (.ofNat 3) (.ofNat 2) e0 e1 e2 = true := by kernel_rfl
theorem retF3_3 (e0 e1 e2 : TypeId) : run2 7 (.ofNat 3) (.ofNat 3) e0 e1 e2 = true := by kernel_rfl
theorem retF3_4 (e0 e1 e2 : TypeId) : run2 7 (.ofNat 3) (.ofNat 4) e0 e1 e2 = true := by kernel_rfl
theorem retF3_5 (e0 e1 e2 : TypeId) : run2 7 (.ofNat 3) (.ofNat 5) e0 e1 e2 = true := by kernel_rfl
theorem retF3_6 (e0 e1 e2 : TypeId) : run2 7 (.ofNat 3) (.ofNat 6) e0 e1 e2 = true := by kernel_rfl
theorem retF3_7 (e0 e1 e2 : TypeId) : run2 7 (.ofNat 3) (.ofNat 7) e0 e1 e2 = true := by kernel_rfl
theorem retF3 (e0 e1 e2 : TypeId) : ∀ s, s < 8 → run2 7 (.ofNat 3) (.ofNat s) e0 e1 e2 = true
  | 0, _ => retF3_0 e0 e1 e2
  | 1, _ => retF3_1 e0 e1 e2
  | 2, _ => retF3_2 e0 e1 e2
  | 3, _ => retF3_3 e0 e1 e2
  | 4, _ => retF3_4 e0 e1 e2
  | 5, _ => retF3_5 e0 e1 e2
  | 6, _ => retF3_6 e0 e1 e2
  | 7, _ => retF3_7 e0 e1 e2
  | n + 8, h => absurd h (by omega)
theorem retD4 (m : Nat) (e0 e1 e2 : TypeId) : run2 7 (.ofNat 4) (.negSucc m) e0 e1 e2 = true := by kernel_rfl
theorem retE4 (m : Nat) (e0 e1 e2 : TypeId) : run2 7 (.ofNat 4) (.ofNat (m + 16)) e0 e1 e2 = true := by kernel_rfl
theorem retF4_0 (e0 e1 e2 : TypeId) : run2 7 (.ofNat 4) (.ofNat 0) e0 e1 e2 = true := by kernel_rfl
theorem retF4_1 (e0 e1 e2 : TypeId) : run2 7 (.ofNat 4) (.ofNat 1) e0 e1 e2 = true := by kernel_rfl
theorem retF4_2 (e0 e1 e2 : TypeId) : run2 7 (.ofNat 4) (.ofNat 2) e0 e1 e2 = true := by kernel_rfl
theorem retF4_3 (e0 e1 e2 : TypeId) : run2 7 (.ofNat 4) (.ofNat 3) e0 e1 e2 = true := by kernel_rfl
theorem retF4_4 (e0 e1 e2 : TypeId) : run2 7 (.ofNat 4) (.ofNat 4) e0 e1 e2 = true := by kernel_rfl
theorem retF4_5 (e0 e1 e2 : TypeId) : run2 7 (.ofNat 4) (.ofNat 5) e0 e1 e2 = true := by kernel_rfl
theorem retF4_6 (e0 e1 e2 : TypeId) : run2 7 (.ofNat 4) (.ofNat 6) e0 e1 e2 = true := by kernel_rfl
theorem retF4_7 (e0 e1 e2 : TypeId) : run2 7 (.ofNat 4) (.ofNat 7) e0 e1 e2 = true := by kernel_rfl
theorem retF4_8 (e0 e1 e2 : TypeId) : run2 7 (.ofNat 4) (.ofNat 8) e0 e1 e2 = true := by kernel_rfl
theorem retF4_9 (e0 e1 e2 : TypeId) : run2 7 (.ofNat 4) (.ofNat 9) e0 e1 e2 = true := by kernel_rfl
theorem retF4_10 (e0 e1 e2 : TypeId) : run2 7 (.ofNat 4) (.ofNat 10) e0 e1 e2 = true := by kernel_rfl
theorem retF4_11 (e0 e1 e2 : TypeId) : run2 7 (.ofNat 4) (.ofNat 11) e0 e1 e2 = true := by kernel_rfl
theorem retF4_12 (e0 e1 e2 : TypeId) : run2 7 (.ofNat 4) (.ofNat 12) e0 e1 e2 = true := by kernel_rfl
theorem retF4_13 (e0 e1 e2 : TypeId) : run2 7 (.ofNat 4) (.ofNat 13) e0 e1 e2 = true := by kernel_rfl
theorem retF4_14 (e0 e1 e2 : TypeId) : run2 7 (.ofNat 4) (.ofNat 14) e0 e1 e2 = true := by kernel_rfl
theorem retF4_15 (e0 e1 e2 : TypeId) : run2 7 (.ofNat 4) (.ofNat 15) e0 e1 e2 = true := by kernel_rfl
theorem retF4 (e0 e1 e2 : TypeId) : ∀ s, s < 16 → run2 7 (.ofNat 4) (.ofNat s) e0 e1 e2 = true
  | 0, _ => retF4_0 e0 e1 e2
  | 1, _ => retF4_1 e0 e1 e2
  | 2, _ => retF4_2 e0 e1 e2
  | 3, _ => retF4_3 e0 e1 e2
  | 4, _ => retF4_4 e0 e1 e2
  | 5, _ => retF4_5 e0 e1 e2
  | 6, _ => retF4_6 e0 e1 e2
  | 7, _ => retF4_7 e0 e1 e2
  | 8, _ => retF4_8 e0 e1 e2
  | 9, _ => retF4_9 e0 e1 e2
  | 10, _ => retF4_10 e0 e1 e2
  | 11, _ => retF4_11 e0 e1 e2
  | 12, _ => retF4_12 e0 e1 e2
  | 13, _ => retF4_13 e0 e1 e2
  | 14, _ => retF4_14 e0 e1 e2
  | 15, _ => retF4_15 e0 e1 e2
  | n + 16, h => absurd h (by omega)
theorem retD5 (m : Nat) (e0 e1 e2 : TypeId) : run2 7 (.ofNat 5) (.negSucc m) e0 e1 e2 = true := by kernel_rfl
theorem retE5 (m : Nat) (e0 e1 e2 : TypeId) : run2 7 (.ofNat 5) (.ofNat (m + 32)) e0 e1 e2 = true := by kernel_rfl
theorem retF5_0 (e0 e1 e2 : TypeId) : run2 7 (.ofNat 5) (.ofNat 0) e0 e1 e2 = true := by kernel_rfl
theorem retF5_1 (e0 e1 e2 : TypeId) : run2 7 (.ofNat 5) (.ofNat 1) e0 e1 e2 = true := by kernel_rfl
theorem retF5_2 (e0 e1 e2 : TypeId) : run2 7 (.ofNat 5) (.ofNat 2) e0 e1 e2 = true := by kernel_rfl
theorem retF5_3 (e0 e1 e2 : TypeId) : run2 7 (.ofNat 5) (.ofNat 3) e0 e1 e2 = true := by kernel_rfl
theorem retF5_4 (e0 e1 e2 : TypeId) : run2 7 (.ofNat 5) (.ofNat 4) e0 e1 e2 = true := by kernel_rfl
theorem retF5_5 (e0 e1 e2 : TypeId) : run2 7 (.ofNat 5) (.ofNat 5) e0 e1 e2 = true := by kernel_rfl
theorem retF5_6 (e0 e1 e2 : TypeId) : run2 7 (.ofNat 5) (.ofNat 6) e0 e1 e2 = true := by kernel_rfl
theorem retF5_7 (e0 e1 e2 : TypeId) : run2 7 (.ofNat 5) (.ofNat 7) e0 e1 e2 = true := by kernel_rfl
theorem retF5_8 (e0 e1 e2 : TypeId) : run2 7 (.ofNat 5) (.ofNat 8) e0 e1 e2 = true := by kernel_rfl
theorem retF5_9 (e0 e1 e2 : TypeId) : run2 7 (.ofNat 5) (.ofNat 9) e0 e1 e2 = true := by kernel_rfl
theorem retF5_10 (e0 e1 e2 : TypeId) : run2 7 (.ofNat 5) (.ofNat 10) e0 e1 e2 = true := by kernel_rfl
theorem retF5_11 (e0 e1 e2 : TypeId) : run2 7 (.ofNat 5) (.ofNat 11) e0 e1 e2 = true := by kernel_rfl
theorem retF5_12 (e0 e1 e2 : TypeId) : run2 7 (.ofNat 5) (.ofNat 12) e0 e1 e2 = true := by kernel_rfl
theorem retF5_13 (e0 e1 e2 : TypeId) : run2 7 (.ofNat 5) (.ofNat 13) e0 e1 e2 = true := by kernel_rfl
theorem retF5_14 (e0 e1 e2 : TypeId) : run2 7 (.ofNat 5) (.ofNat 14) e0 e1 e2 = true := by kernel_rfl
theorem retF5_15 (e0 e1 e2 : TypeId) : run2 7 (.ofNat 5) (.ofNat 15) e0 e1 e2 = true := by kernel_rfl
theorem retF5_16 (e0 e1 e2 : TypeId) : run2 7 (.ofNat 5) (.ofNat 16) e0 e1 e2 = true := by kernel_rfl
theorem retF5_17 (e0 e1 e2 : TypeId) : run2 7 (.ofNat 5) (.ofNat 17) e0 e1 e2 = true := by kernel_rfl
theorem retF5_18 (e0 e1 e2 : TypeId) : run2 7 (.ofNat 5) (.ofNat 18) e0 e1 e2 = true := by kernel_rfl
theorem retF5_19 (e0 e1 e2 : TypeId) : run2 7 (.ofNat 5) (.ofNat 19) e0 e1 e2 = true := by kernel_rfl
theorem retF5_20 (e0 e1 e2 : TypeId) : run2 7 (.ofNat 5) (.ofNat 20) e0 e1 e2 = true := by kernel_rfl
theorem retF5_21 (e0 e1 e2 : TypeId) : run2 7 (.ofNat 5) (.ofNat 21) e0 e1 e2 = true := by kernel_rfl
theorem retF5_22 (e0 e1 e2 : TypeId) : run2 7 (.ofNat 5) (.ofNat 22) e0 e1 e2 = true := by kernel_rfl
theorem retF5_23 (e0 e1 e2 : TypeId) : run2 7 (.ofNat 5) (.ofNat 23) e0 e1 e2 = true := by kernel_rfl
theorem retF5_24 (e0 e1 e2 : TypeId) : run2 7 (.ofNat 5) (.ofNat 24) e0 e1 e2 = true := by kernel_rfl
theorem retF5_25 (e0 e1 e2 : TypeId) : run2 7 (.ofNat 5) (.ofNat 25) e0 e1 e2 = true := by kernel_rfl
theorem retF5_26 (e0 e1 e2 : TypeId) : run2 7 (.ofNat 5) (.ofNat 26) e0 e1 e2 = true := by kernel_rfl
theorem retF5_27 (e0 e1 e2 : TypeId) : run2 7 (.ofNat 5) (.ofNat 27) e0 e1 e2 = true := by kernel_rfl
theorem retF5_28 (e0 e1 e2 : TypeId) : run2 7 (.ofNat 5) (.ofNat 28) e0 e1 e2 = true := by kernel_rfl
theorem retF5_29 (e0 e1 e2 : TypeId) : run2 7 (.ofNat 5) (.ofNat 29) e0 e1 e2 = true := by kernel_rfl
theorem retF5_30 (e0 e1 e2 : TypeId) : run2 7 (.ofNat 5) (.ofNat 30) e0 e1 e2 = true := by kernel_rfl
theorem retF5_31 (e0 e1 e2 : TypeId) : run2 7 (.ofNat 5) (.ofNat 31) e0 e1 e2 = true := by kernel_rfl
theorem retF5 (e0 e1 e2 : TypeId) : ∀ s, s < 32 → run2 7 (.ofNat 5) (.ofNat s) e0 e1 e2 = true
  | 0, _ => retF5_0 e0 e1 e2
  | 1, _ => retF5_1 e0 e1 e2
  | 2, _ => retF5_2 e0 e1 e2
  | 3, _ => retF5_3 e0 e1 e2
  | 4, _ => retF5_4 e0 e1 e2
  | 5, _ => retF5_5 e0 e1 e2
  | 6, _ => retF5_6 e0 e1 e2
  | 7, _ => retF5_7 e0 e1 e2
  | 8, _ => retF5_8 e0 e1 e2
  | 9, _ => retF5_9 e0 e1 e2
  | 10, _ => retF5_10 e0 e1 e2
  | 11, _ => retF5_11 e0 e1 e2
  | 12, _ => retF5_12 e0 e1 e2
  | 13, _ => retF5_13 e0 e1 e2
  | 14, _ => retF5_14 e0 e1 e2
  | 15, _ => retF5_15 e0 e1 e2
  | 16, _ => retF5_16 e0 e1 e2
  | 17, _ => retF5_17 e0 e1 e2
  | 18, _ => retF5_18 e0 e1 e2
  | 19, _ => retF5_19 e0 e1 e2
  | 20, _ => retF5_20 e0 e1 e2
  | 21, _ => retF5_21 e0 e1 e2
  | 22, _ => retF5_22 e0 e1 e2
  | 23, _ => retF5_23 e0 e1 e2
  | 24, _ => retF5_24 e0 e1 e2
  | 25, _ => retF5_25 e0 e1 e2
  | 26, _ => retF5_26 e0 e1 e2
  | 27, _ => retF5_27 e0 e1 e2
  | 28, _ => retF5_28 e0 e1 e2
  | 29, _ => retF5_29 e0 e1 e2
  | 30, _ => retF5_30 e0 e1 e2
  | 31, _ => retF5_31 e0 e1 e2
  | n + 32, h => absurd h (by omega)
theorem ret_set {k : Nat} {m : Nat} {e0 e1 e2 : TypeId} (hD : ∀ j, run2 7 (.ofNat k) (.negSucc j) e0 e1 e2 = true) (hE : ∀ j, run2 7 (.ofNat k) (.ofNat (j + m)) e0 e1 e2 = true)
    (hF : ∀ s, s < m → run2 7 (.ofNat k) (.ofNat s) e0 e1 e2 = true) : ∀ b, run2 7 (.ofNat k) b e0 e1 e2 = true
  | .negSucc j => hD j
  | .ofNat s => by
    rcases Nat.lt_or_ge s m with h | h
    · exact hF s h
    · obtain ⟨j, rfl⟩ : ∃ j, s = j + m := ⟨s - m, by omega⟩
      exact hE j
theorem ret_all (e0 e1 e2 : TypeId) : ∀ a b, run2 7 a b e0 e1 e2 = true
  | .negSucc m, b => retA m b e0 e1 e2
  | .ofNat 0, b => retB b e0 e1 e2
  | .ofNat 1, b => ret_set (fun j => retD1 j e0 e1 e2) (fun j => retE1 j e0 e1 e2) (retF1 e0 e1 e2) b
  | .ofNat 2, b => ret_set (fun j => retD2 j e0 e1 e2) (fun j => retE2 j e0 e1 e2) (retF2 e0 e1 e2) b
  | .ofNat 3, b => ret_set (fun j => retD3 j e0 e1 e2) (fun j => retE3 j e0 e1 e2) (retF3 e0 e1 e2) b
  | .ofNat 4, b => ret_set (fun j => retD4 j e0 e1 e2) (fun j => retE4 j e0 e1 e2) (retF4 e0 e1 e2) b
  | .ofNat 5, b => ret_set (fun j => retD5 j e0 e1 e2) (fun j => retE5 j e0 e1 e2) (retF5 e0 e1 e2) b
  | .ofNat (m + 6), b => retC m b e0 e1 e2
theorem walk {W : World} {e0 e1 e2 : TypeId} (H : Held W (tabs e0 e1 e2)) (a b : Int) : Calls Tryd.prog 7 #[.int .i64 a, .int .i64 b] W fun e w' => e = .returned (.bool true) ∧ Below W.heap.size W w' :=
  law (ints2 a b) (fun e0 e1 e2 => ret_all e0 e1 e2 a b) H
#print axioms walk
end Go.Proofs.YtpdlnijdcgcfbaaDoor.Ev
