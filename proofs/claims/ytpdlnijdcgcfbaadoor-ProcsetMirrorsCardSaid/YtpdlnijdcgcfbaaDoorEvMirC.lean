/-
  ProcsetMirrors: cases, by the kernel.
-/
import Derived.Test.YtpdlnijdcgcfbaaDoorEvMirBase
namespace Go.Proofs.YtpdlnijdcgcfbaaDoor.procsetMirrors
open Go Go.Ev Go.RowKit
open Go.Proofs.YtpdlnijdcgcfbaaDoor.Ev
theorem lo5_20 (m : Nat) (e0 e1 e2 : TypeId) : run (.ofNat 5) (.ofNat 20) (.negSucc m) e0 e1 e2 = true := by kernel_rfl
theorem hi5_20 (m : Nat) (e0 e1 e2 : TypeId) : run (.ofNat 5) (.ofNat 20) (.ofNat (m + 3)) e0 e1 e2 = true := by kernel_rfl
theorem at5_20_0 (e0 e1 e2 : TypeId) : run (.ofNat 5) (.ofNat 20) (.ofNat 0) e0 e1 e2 = true := by kernel_rfl
theorem at5_20_1 (e0 e1 e2 : TypeId) : run (.ofNat 5) (.ofNat 20) (.ofNat 1) e0 e1 e2 = true := by kernel_rfl
theorem at5_20_2 (e0 e1 e2 : TypeId) : run (.ofNat 5) (.ofNat 20) (.ofNat 2) e0 e1 e2 = true := by kernel_rfl
theorem in5_20 (e0 e1 e2 : TypeId) : ∀ k, run (.ofNat 5) (.ofNat 20) k e0 e1 e2 = true :=
  ks (fun j => lo5_20 j e0 e1 e2) (fun j => hi5_20 j e0 e1 e2) fun
    | 0, _ => at5_20_0 e0 e1 e2
    | 1, _ => at5_20_1 e0 e1 e2
    | 2, _ => at5_20_2 e0 e1 e2
    | j + 3, h => absurd h (by omega)
theorem lo5_21 (m : Nat) (e0 e1 e2 : TypeId) : run (.ofNat 5) (.ofNat 21) (.negSucc m) e0 e1 e2 = true := by kernel_rfl
theorem hi5_21 (m : Nat) (e0 e1 e2 : TypeId) : run (.ofNat 5) (.ofNat 21) (.ofNat (m + 4)) e0 e1 e2 = true := by kernel_rfl
theorem at5_21_0 (e0 e1 e2 : TypeId) : run (.ofNat 5) (.ofNat 21) (.ofNat 0) e0 e1 e2 = true := by kernel_rfl
theorem at5_21_1 (e0 e1 e2 : TypeId) : run (.ofNat 5) (.ofNat 21) (.ofNat 1) e0 e1 e2 = true := by kernel_rfl
theorem at5_21_2 (e0 e1 e2 : TypeId) : run (.ofNat 5) (.ofNat 21) (.ofNat 2) e0 e1 e2 = true := by kernel_rfl
theorem at5_21_3 (e0 e1 e2 : TypeId) : run (.ofNat 5) (.ofNat 21) (.ofNat 3) e0 e1 e2 = true := by kernel_rfl
theorem in5_21 (e0 e1 e2 : TypeId) : ∀ k, run (.ofNat 5) (.ofNat 21) k e0 e1 e2 = true :=
  ks (fun j => lo5_21 j e0 e1 e2) (fun j => hi5_21 j e0 e1 e2) fun
    | 0, _ => at5_21_0 e0 e1 e2
    | 1, _ => at5_21_1 e0 e1 e2
    | 2, _ => at5_21_2 e0 e1 e2
    | 3, _ => at5_21_3 e0 e1 e2
    | j + 4, h => absurd h (by omega)
theorem lo5_22 (m : Nat) (e0 e1 e2 : TypeId) : run (.ofNat 5) (.ofNat 22) (.negSucc m) e0 e1 e2 = true := by kernel_rfl
theorem hi5_22 (m : Nat) (e0 e1 e2 : TypeId) : run (.ofNat 5) (.ofNat 22) (.ofNat (m + 4)) e0 e1 e2 = true := by kernel_rfl
theorem at5_22_0 (e0 e1 e2 : TypeId) : run (.ofNat 5) (.ofNat 22) (.ofNat 0) e0 e1 e2 = true := by kernel_rfl
theorem at5_22_1 (e0 e1 e2 : TypeId) : run (.ofNat 5) (.ofNat 22) (.ofNat 1) e0 e1 e2 = true := by kernel_rfl
theorem at5_22_2 (e0 e1 e2 : TypeId) : run (.ofNat 5) (.ofNat 22) (.ofNat 2) e0 e1 e2 = true := by kernel_rfl
theorem at5_22_3 (e0 e1 e2 : TypeId) : run (.ofNat 5) (.ofNat 22) (.ofNat 3) e0 e1 e2 = true := by kernel_rfl
theorem in5_22 (e0 e1 e2 : TypeId) : ∀ k, run (.ofNat 5) (.ofNat 22) k e0 e1 e2 = true :=
  ks (fun j => lo5_22 j e0 e1 e2) (fun j => hi5_22 j e0 e1 e2) fun
    | 0, _ => at5_22_0 e0 e1 e2
    | 1, _ => at5_22_1 e0 e1 e2
    | 2, _ => at5_22_2 e0 e1 e2
    | 3, _ => at5_22_3 e0 e1 e2
    | j + 4, h => absurd h (by omega)
theorem lo5_23 (m : Nat) (e0 e1 e2 : TypeId) : run (.ofNat 5) (.ofNat 23) (.negSucc m) e0 e1 e2 = true := by kernel_rfl
theorem hi5_23 (m : Nat) (e0 e1 e2 : TypeId) : run (.ofNat 5) (.ofNat 23) (.ofNat (m + 5)) e0 e1 e2 = true := by kernel_rfl
theorem at5_23_0 (e0 e1 e2 : TypeId) : run (.ofNat 5) (.ofNat 23) (.ofNat 0) e0 e1 e2 = true := by kernel_rfl
theorem at5_23_1 (e0 e1 e2 : TypeId) : run (.ofNat 5) (.ofNat 23) (.ofNat 1) e0 e1 e2 = true := by kernel_rfl
theorem at5_23_2 (e0 e1 e2 : TypeId) : run (.ofNat 5) (.ofNat 23) (.ofNat 2) e0 e1 e2 = true := by kernel_rfl
theorem at5_23_3 (e0 e1 e2 : TypeId) : run (.ofNat 5) (.ofNat 23) (.ofNat 3) e0 e1 e2 = true := by kernel_rfl
theorem at5_23_4 (e0 e1 e2 : TypeId) : run (.ofNat 5) (.ofNat 23) (.ofNat 4) e0 e1 e2 = true := by kernel_rfl
theorem in5_23 (e0 e1 e2 : TypeId) : ∀ k, run (.ofNat 5) (.ofNat 23) k e0 e1 e2 = true :=
  ks (fun j => lo5_23 j e0 e1 e2) (fun j => hi5_23 j e0 e1 e2) fun
    | 0, _ => at5_23_0 e0 e1 e2
    | 1, _ => at5_23_1 e0 e1 e2
    | 2, _ => at5_23_2 e0 e1 e2
    | 3, _ => at5_23_3 e0 e1 e2
    | 4, _ => at5_23_4 e0 e1 e2
    | j + 5, h => absurd h (by omega)
theorem lo5_24 (m : Nat) (e0 e1 e2 : TypeId) : run (.ofNat 5) (.ofNat 24) (.negSucc m) e0 e1 e2 = true := by kernel_rfl
theorem hi5_24 (m : Nat) (e0 e1 e2 : TypeId) : run (.ofNat 5) (.ofNat 24) (.ofNat (m + 3)) e0 e1 e2 = true := by kernel_rfl
theorem at5_24_0 (e0 e1 e2 : TypeId) : run (.ofNat 5) (.ofNat 24) (.ofNat 0) e0 e1 e2 = true := by kernel_rfl
theorem at5_24_1 (e0 e1 e2 : TypeId) : run (.ofNat 5) (.ofNat 24) (.ofNat 1) e0 e1 e2 = true := by kernel_rfl
theorem at5_24_2 (e0 e1 e2 : TypeId) : run (.ofNat 5) (.ofNat 24) (.ofNat 2) e0 e1 e2 = true := by kernel_rfl
theorem in5_24 (e0 e1 e2 : TypeId) : ∀ k, run (.ofNat 5) (.ofNat 24) k e0 e1 e2 = true :=
  ks (fun j => lo5_24 j e0 e1 e2) (fun j => hi5_24 j e0 e1 e2) fun
    | 0, _ => at5_24_0 e0 e1 e2
    | 1, _ => at5_24_1 e0 e1 e2
    | 2, _ => at5_24_2 e0 e1 e2
    | j + 3, h => absurd h (by omega)
theorem lo5_25 (m : Nat) (e0 e1 e2 : TypeId) : run (.ofNat 5) (.ofNat 25) (.negSucc m) e0 e1 e2 = true := by kernel_rfl
theorem hi5_25 (m : Nat) (e0 e1 e2 : TypeId) : run (.ofNat 5) (.ofNat 25) (.ofNat (m + 4)) e0 e1 e2 = true := by kernel_rfl
theorem at5_25_0 (e0 e1 e2 : TypeId) : run (.ofNat 5) (.ofNat 25) (.ofNat 0) e0 e1 e2 = true := by kernel_rfl
theorem at5_25_1 (e0 e1 e2 : TypeId) : run (.ofNat 5) (.ofNat 25) (.ofNat 1) e0 e1 e2 = true := by kernel_rfl
theorem at5_25_2 (e0 e1 e2 : TypeId) : run (.ofNat 5) (.ofNat 25) (.ofNat 2) e0 e1 e2 = true := by kernel_rfl
theorem at5_25_3 (e0 e1 e2 : TypeId) : run (.ofNat 5) (.ofNat 25) (.ofNat 3) e0 e1 e2 = true := by kernel_rfl
theorem in5_25 (e0 e1 e2 : TypeId) : ∀ k, run (.ofNat 5) (.ofNat 25) k e0 e1 e2 = true :=
  ks (fun j => lo5_25 j e0 e1 e2) (fun j => hi5_25 j e0 e1 e2) fun
    | 0, _ => at5_25_0 e0 e1 e2
    | 1, _ => at5_25_1 e0 e1 e2
    | 2, _ => at5_25_2 e0 e1 e2
    | 3, _ => at5_25_3 e0 e1 e2
    | j + 4, h => absurd h (by omega)
theorem lo5_26 (m : Nat) (e0 e1 e2 : TypeId) : run (.ofNat 5) (.ofNat 26) (.negSucc m) e0 e1 e2 = true := by kernel_rfl
theorem hi5_26 (m : Nat) (e0 e1 e2 : TypeId) : run (.ofNat 5) (.ofNat 26) (.ofNat (m + 4)) e0 e1 e2 = true := by kernel_rfl
theorem at5_26_0 (e0 e1 e2 : TypeId) : run (.ofNat 5) (.ofNat 26) (.ofNat 0) e0 e1 e2 = true := by kernel_rfl
theorem at5_26_1 (e0 e1 e2 : TypeId) : run (.ofNat 5) (.ofNat 26) (.ofNat 1) e0 e1 e2 = true := by kernel_rfl
theorem at5_26_2 (e0 e1 e2 : TypeId) : run (.ofNat 5) (.ofNat 26) (.ofNat 2) e0 e1 e2 = true := by kernel_rfl
theorem at5_26_3 (e0 e1 e2 : TypeId) : run (.ofNat 5) (.ofNat 26) (.ofNat 3) e0 e1 e2 = true := by kernel_rfl
theorem in5_26 (e0 e1 e2 : TypeId) : ∀ k, run (.ofNat 5) (.ofNat 26) k e0 e1 e2 = true :=
  ks (fun j => lo5_26 j e0 e1 e2) (fun j => hi5_26 j e0 e1 e2) fun
    | 0, _ => at5_26_0 e0 e1 e2
    | 1, _ => at5_26_1 e0 e1 e2
    | 2, _ => at5_26_2 e0 e1 e2
    | 3, _ => at5_26_3 e0 e1 e2
    | j + 4, h => absurd h (by omega)
theorem lo5_27 (m : Nat) (e0 e1 e2 : TypeId) : run (.ofNat 5) (.ofNat 27) (.negSucc m) e0 e1 e2 = true := by kernel_rfl
theorem hi5_27 (m : Nat) (e0 e1 e2 : TypeId) : run (.ofNat 5) (.ofNat 27) (.ofNat (m + 5)) e0 e1 e2 = true := by kernel_rfl
theorem at5_27_0 (e0 e1 e2 : TypeId) : run (.ofNat 5) (.ofNat 27) (.ofNat 0) e0 e1 e2 = true := by kernel_rfl
theorem at5_27_1 (e0 e1 e2 : TypeId) : run (.ofNat 5) (.ofNat 27) (.ofNat 1) e0 e1 e2 = true := by kernel_rfl
theorem at5_27_2 (e0 e1 e2 : TypeId) : run (.ofNat 5) (.ofNat 27) (.ofNat 2) e0 e1 e2 = true := by kernel_rfl
theorem at5_27_3 (e0 e1 e2 : TypeId) : run (.ofNat 5) (.ofNat 27) (.ofNat 3) e0 e1 e2 = true := by kernel_rfl
theorem at5_27_4 (e0 e1 e2 : TypeId) : run (.ofNat 5) (.ofNat 27) (.ofNat 4) e0 e1 e2 = true := by kernel_rfl
theorem in5_27 (e0 e1 e2 : TypeId) : ∀ k, run (.ofNat 5) (.ofNat 27) k e0 e1 e2 = true :=
  ks (fun j => lo5_27 j e0 e1 e2) (fun j => hi5_27 j e0 e1 e2) fun
    | 0, _ => at5_27_0 e0 e1 e2
    | 1, _ => at5_27_1 e0 e1 e2
    | 2, _ => at5_27_2 e0 e1 e2
    | 3, _ => at5_27_3 e0 e1 e2
    | 4, _ => at5_27_4 e0 e1 e2
    | j + 5, h => absurd h (by omega)
theorem lo5_28 (m : Nat) (e0 e1 e2 : TypeId) : run (.ofNat 5) (.ofNat 28) (.negSucc m) e0 e1 e2 = true := by kernel_rfl
theorem hi5_28 (m : Nat) (e0 e1 e2 : TypeId) : run (.ofNat 5) (.ofNat 28) (.ofNat (m + 4)) e0 e1 e2 = true := by kernel_rfl
theorem at5_28_0 (e0 e1 e2 : TypeId) : run (.ofNat 5) (.ofNat 28) (.ofNat 0) e0 e1 e2 = true := by kernel_rfl
theorem at5_28_1 (e0 e1 e2 : TypeId) : run (.ofNat 5) (.ofNat 28) (.ofNat 1) e0 e1 e2 = true := by kernel_rfl
theorem at5_28_2 (e0 e1 e2 : TypeId) : run (.ofNat 5) (.ofNat 28) (.ofNat 2) e0 e1 e2 = true := by kernel_rfl
theorem at5_28_3 (e0 e1 e2 : TypeId) : run (.ofNat 5) (.ofNat 28) (.ofNat 3) e0 e1 e2 = true := by kernel_rfl
theorem in5_28 (e0 e1 e2 : TypeId) : ∀ k, run (.ofNat 5) (.ofNat 28) k e0 e1 e2 = true :=
  ks (fun j => lo5_28 j e0 e1 e2) (fun j => hi5_28 j e0 e1 e2) fun
    | 0, _ => at5_28_0 e0 e1 e2
    | 1, _ => at5_28_1 e0 e1 e2
    | 2, _ => at5_28_2 e0 e1 e2
    | 3, _ => at5_28_3 e0 e1 e2
    | j + 4, h => absurd h (by omega)
theorem lo5_29 (m : Nat) (e0 e1 e2 : TypeId) : run (.ofNat 5) (.ofNat 29) (.negSucc m) e0 e1 e2 = true := by kernel_rfl
theorem hi5_29 (m : Nat) (e0 e1 e2 : TypeId) : run (.ofNat 5) (.ofNat 29) (.ofNat (m + 5)) e0 e1 e2 = true := by kernel_rfl
theorem at5_29_0 (e0 e1 e2 : TypeId) : run (.ofNat 5) (.ofNat 29) (.ofNat 0) e0 e1 e2 = true := by kernel_rfl
theorem at5_29_1 (e0 e1 e2 : TypeId) : run (.ofNat 5) (.ofNat 29) (.ofNat 1) e0 e1 e2 = true := by kernel_rfl
theorem at5_29_2 (e0 e1 e2 : TypeId) : run (.ofNat 5) (.ofNat 29) (.ofNat 2) e0 e1 e2 = true := by kernel_rfl
theorem at5_29_3 (e0 e1 e2 : TypeId) : run (.ofNat 5) (.ofNat 29) (.ofNat 3) e0 e1 e2 = true := by kernel_rfl
theorem at5_29_4 (e0 e1 e2 : TypeId) : run (.ofNat 5) (.ofNat 29) (.ofNat 4) e0 e1 e2 = true := by kernel_rfl
theorem in5_29 (e0 e1 e2 : TypeId) : ∀ k, run (.ofNat 5) (.ofNat 29) k e0 e1 e2 = true :=
  ks (fun j => lo5_29 j e0 e1 e2) (fun j => hi5_29 j e0 e1 e2) fun
    | 0, _ => at5_29_0 e0 e1 e2
    | 1, _ => at5_29_1 e0 e1 e2
    | 2, _ => at5_29_2 e0 e1 e2
    | 3, _ => at5_29_3 e0 e1 e2
    | 4, _ => at5_29_4 e0 e1 e2
    | j + 5, h => absurd h (by omega)
theorem lo5_30 (m : Nat) (e0 e1 e2 : TypeId) : run (.ofNat 5) (.ofNat 30) (.negSucc m) e0 e1 e2 = true := by kernel_rfl
theorem hi5_30 (m : Nat) (e0 e1 e2 : TypeId) : run (.ofNat 5) (.ofNat 30) (.ofNat (m + 5)) e0 e1 e2 = true := by kernel_rfl
theorem at5_30_0 (e0 e1 e2 : TypeId) : run (.ofNat 5) (.ofNat 30) (.ofNat 0) e0 e1 e2 = true := by kernel_rfl
theorem at5_30_1 (e0 e1 e2 : TypeId) : run (.ofNat 5) (.ofNat 30) (.ofNat 1) e0 e1 e2 = true := by kernel_rfl
theorem at5_30_2 (e0 e1 e2 : TypeId) : run (.ofNat 5) (.ofNat 30) (.ofNat 2) e0 e1 e2 = true := by kernel_rfl
theorem at5_30_3 (e0 e1 e2 : TypeId) : run (.ofNat 5) (.ofNat 30) (.ofNat 3) e0 e1 e2 = true := by kernel_rfl
theorem at5_30_4 (e0 e1 e2 : TypeId) : run (.ofNat 5) (.ofNat 30) (.ofNat 4) e0 e1 e2 = true := by kernel_rfl
theorem in5_30 (e0 e1 e2 : TypeId) : ∀ k, run (.ofNat 5) (.ofNat 30) k e0 e1 e2 = true :=
  ks (fun j => lo5_30 j e0 e1 e2) (fun j => hi5_30 j e0 e1 e2) fun
    | 0, _ => at5_30_0 e0 e1 e2
    | 1, _ => at5_30_1 e0 e1 e2
    | 2, _ => at5_30_2 e0 e1 e2
    | 3, _ => at5_30_3 e0 e1 e2
    | 4, _ => at5_30_4 e0 e1 e2
    | j + 5, h => absurd h (by omega)
theorem lo5_31 (m : Nat) (e0 e1 e2 : TypeId) : run (.ofNat 5) (.ofNat 31) (.negSucc m) e0 e1 e2 = true := by kernel_rfl
theorem hi5_31 (m : Nat) (e0 e1 e2 : TypeId) : run (.ofNat 5) (.ofNat 31) (.ofNat (m + 6)) e0 e1 e2 = true := by kernel_rfl
theorem at5_31_0 (e0 e1 e2 : TypeId) : run (.ofNat 5) (.ofNat 31) (.ofNat 0) e0 e1 e2 = true := by kernel_rfl
theorem at5_31_1 (e0 e1 e2 : TypeId) : run (.ofNat 5) (.ofNat 31) (.ofNat 1) e0 e1 e2 = true := by kernel_rfl
theorem at5_31_2 (e0 e1 e2 : TypeId) : run (.ofNat 5) (.ofNat 31) (.ofNat 2) e0 e1 e2 = true := by kernel_rfl
theorem at5_31_3 (e0 e1 e2 : TypeId) : run (.ofNat 5) (.ofNat 31) (.ofNat 3) e0 e1 e2 = true := by kernel_rfl
theorem at5_31_4 (e0 e1 e2 : TypeId) : run (.ofNat 5) (.ofNat 31) (.ofNat 4) e0 e1 e2 = true := by kernel_rfl
theorem at5_31_5 (e0 e1 e2 : TypeId) : run (.ofNat 5) (.ofNat 31) (.ofNat 5) e0 e1 e2 = true := by kernel_rfl
theorem in5_31 (e0 e1 e2 : TypeId) : ∀ k, run (.ofNat 5) (.ofNat 31) k e0 e1 e2 = true :=
  ks (fun j => lo5_31 j e0 e1 e2) (fun j => hi5_31 j e0 e1 e2) fun
    | 0, _ => at5_31_0 e0 e1 e2
    | 1, _ => at5_31_1 e0 e1 e2
    | 2, _ => at5_31_2 e0 e1 e2
    | 3, _ => at5_31_3 e0 e1 e2
    | 4, _ => at5_31_4 e0 e1 e2
    | 5, _ => at5_31_5 e0 e1 e2
    | j + 6, h => absurd h (by omega)
end Go.Proofs.YtpdlnijdcgcfbaaDoor.procsetMirrors
