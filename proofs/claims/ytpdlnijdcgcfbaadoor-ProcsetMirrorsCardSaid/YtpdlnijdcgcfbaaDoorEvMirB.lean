/-
  ProcsetMirrors: cases, by the kernel.
-/
import Derived.Test.YtpdlnijdcgcfbaaDoorEvMirBase
namespace Go.Proofs.YtpdlnijdcgcfbaaDoor.procsetMirrors
open Go Go.Ev Go.RowKit
open Go.Proofs.YtpdlnijdcgcfbaaDoor.Ev
theorem lo5_0 (m : Nat) (e0 e1 e2 : TypeId) : run (.ofNat 5) (.ofNat 0) (.negSucc m) e0 e1 e2 = true := by kernel_rfl
theorem hi5_0 (m : Nat) (e0 e1 e2 : TypeId) : run (.ofNat 5) (.ofNat 0) (.ofNat (m + 1)) e0 e1 e2 = true := by kernel_rfl
theorem at5_0_0 (e0 e1 e2 : TypeId) : run (.ofNat 5) (.ofNat 0) (.ofNat 0) e0 e1 e2 = true := by kernel_rfl
theorem in5_0 (e0 e1 e2 : TypeId) : ∀ k, run (.ofNat 5) (.ofNat 0) k e0 e1 e2 = true :=
  ks (fun j => lo5_0 j e0 e1 e2) (fun j => hi5_0 j e0 e1 e2) fun
    | 0, _ => at5_0_0 e0 e1 e2
    | j + 1, h => absurd h (by omega)
theorem lo5_1 (m : Nat) (e0 e1 e2 : TypeId) : run (.ofNat 5) (.ofNat 1) (.negSucc m) e0 e1 e2 = true := by kernel_rfl
theorem hi5_1 (m : Nat) (e0 e1 e2 : TypeId) : run (.ofNat 5) (.ofNat 1) (.ofNat (m + 2)) e0 e1 e2 = true := by kernel_rfl
theorem at5_1_0 (e0 e1 e2 : TypeId) : run (.ofNat 5) (.ofNat 1) (.ofNat 0) e0 e1 e2 = true := by kernel_rfl
theorem at5_1_1 (e0 e1 e2 : TypeId) : run (.ofNat 5) (.ofNat 1) (.ofNat 1) e0 e1 e2 = true := by kernel_rfl
theorem in5_1 (e0 e1 e2 : TypeId) : ∀ k, run (.ofNat 5) (.ofNat 1) k e0 e1 e2 = true :=
  ks (fun j => lo5_1 j e0 e1 e2) (fun j => hi5_1 j e0 e1 e2) fun
    | 0, _ => at5_1_0 e0 e1 e2
    | 1, _ => at5_1_1 e0 e1 e2
    | j + 2, h => absurd h (by omega)
theorem lo5_2 (m : Nat) (e0 e1 e2 : TypeId) : run (.ofNat 5) (.ofNat 2) (.negSucc m) e0 e1 e2 = true := by kernel_rfl
theorem hi5_2 (m : Nat) (e0 e1 e2 : TypeId) : run (.ofNat 5) (.ofNat 2) (.ofNat (m + 2)) e0 e1 e2 = true := by kernel_rfl
theorem at5_2_0 (e0 e1 e2 : TypeId) : run (.ofNat 5) (.ofNat 2) (.ofNat 0) e0 e1 e2 = true := by kernel_rfl
theorem at5_2_1 (e0 e1 e2 : TypeId) : run (.ofNat 5) (.ofNat 2) (.ofNat 1) e0 e1 e2 = true := by kernel_rfl
theorem in5_2 (e0 e1 e2 : TypeId) : ∀ k, run (.ofNat 5) (.ofNat 2) k e0 e1 e2 = true :=
  ks (fun j => lo5_2 j e0 e1 e2) (fun j => hi5_2 j e0 e1 e2) fun
    | 0, _ => at5_2_0 e0 e1 e2
    | 1, _ => at5_2_1 e0 e1 e2
    | j + 2, h => absurd h (by omega)
theorem lo5_3 (m : Nat) (e0 e1 e2 : TypeId) : run (.ofNat 5) (.ofNat 3) (.negSucc m) e0 e1 e2 = true := by kernel_rfl
theorem hi5_3 (m : Nat) (e0 e1 e2 : TypeId) : run (.ofNat 5) (.ofNat 3) (.ofNat (m + 3)) e0 e1 e2 = true := by kernel_rfl
theorem at5_3_0 (e0 e1 e2 : TypeId) : run (.ofNat 5) (.ofNat 3) (.ofNat 0) e0 e1 e2 = true := by kernel_rfl
theorem at5_3_1 (e0 e1 e2 : TypeId) : run (.ofNat 5) (.ofNat 3) (.ofNat 1) e0 e1 e2 = true := by kernel_rfl
theorem at5_3_2 (e0 e1 e2 : TypeId) : run (.ofNat 5) (.ofNat 3) (.ofNat 2) e0 e1 e2 = true := by kernel_rfl
theorem in5_3 (e0 e1 e2 : TypeId) : ∀ k, run (.ofNat 5) (.ofNat 3) k e0 e1 e2 = true :=
  ks (fun j => lo5_3 j e0 e1 e2) (fun j => hi5_3 j e0 e1 e2) fun
    | 0, _ => at5_3_0 e0 e1 e2
    | 1, _ => at5_3_1 e0 e1 e2
    | 2, _ => at5_3_2 e0 e1 e2
    | j + 3, h => absurd h (by omega)
theorem lo5_4 (m : Nat) (e0 e1 e2 : TypeId) : run (.ofNat 5) (.ofNat 4) (.negSucc m) e0 e1 e2 = true := by kernel_rfl
theorem hi5_4 (m : Nat) (e0 e1 e2 : TypeId) : run (.ofNat 5) (.ofNat 4) (.ofNat (m + 2)) e0 e1 e2 = true := by kernel_rfl
theorem at5_4_0 (e0 e1 e2 : TypeId) : run (.ofNat 5) (.ofNat 4) (.ofNat 0) e0 e1 e2 = true := by kernel_rfl
theorem at5_4_1 (e0 e1 e2 : TypeId) : run (.ofNat 5) (.ofNat 4) (.ofNat 1) e0 e1 e2 = true := by kernel_rfl
theorem in5_4 (e0 e1 e2 : TypeId) : ∀ k, run (.ofNat 5) (.ofNat 4) k e0 e1 e2 = true :=
  ks (fun j => lo5_4 j e0 e1 e2) (fun j => hi5_4 j e0 e1 e2) fun
    | 0, _ => at5_4_0 e0 e1 e2
    | 1, _ => at5_4_1 e0 e1 e2
    | j + 2, h => absurd h (by omega)
theorem lo5_5 (m : Nat) (e0 e1 e2 : TypeId) : run (.ofNat 5) (.ofNat 5) (.negSucc m) e0 e1 e2 = true := by kernel_rfl
theorem hi5_5 (m : Nat) (e0 e1 e2 : TypeId) : run (.ofNat 5) (.ofNat 5) (.ofNat (m + 3)) e0 e1 e2 = true := by kernel_rfl
theorem at5_5_0 (e0 e1 e2 : TypeId) : run (.ofNat 5) (.ofNat 5) (.ofNat 0) e0 e1 e2 = true := by kernel_rfl
theorem at5_5_1 (e0 e1 e2 : TypeId) : run (.ofNat 5) (.ofNat 5) (.ofNat 1) e0 e1 e2 = true := by kernel_rfl
theorem at5_5_2 (e0 e1 e2 : TypeId) : run (.ofNat 5) (.ofNat 5) (.ofNat 2) e0 e1 e2 = true := by kernel_rfl
theorem in5_5 (e0 e1 e2 : TypeId) : ∀ k, run (.ofNat 5) (.ofNat 5) k e0 e1 e2 = true :=
  ks (fun j => lo5_5 j e0 e1 e2) (fun j => hi5_5 j e0 e1 e2) fun
    | 0, _ => at5_5_0 e0 e1 e2
    | 1, _ => at5_5_1 e0 e1 e2
    | 2, _ => at5_5_2 e0 e1 e2
    | j + 3, h => absurd h (by omega)
theorem lo5_6 (m : Nat) (e0 e1 e2 : TypeId) : run (.ofNat 5) (.ofNat 6) (.negSucc m) e0 e1 e2 = true := by kernel_rfl
theorem hi5_6 (m : Nat) (e0 e1 e2 : TypeId) : run (.ofNat 5) (.ofNat 6) (.ofNat (m + 3)) e0 e1 e2 = true := by kernel_rfl
theorem at5_6_0 (e0 e1 e2 : TypeId) : run (.ofNat 5) (.ofNat 6) (.ofNat 0) e0 e1 e2 = true := by kernel_rfl
theorem at5_6_1 (e0 e1 e2 : TypeId) : run (.ofNat 5) (.ofNat 6) (.ofNat 1) e0 e1 e2 = true := by kernel_rfl
theorem at5_6_2 (e0 e1 e2 : TypeId) : run (.ofNat 5) (.ofNat 6) (.ofNat 2) e0 e1 e2 = true := by kernel_rfl
theorem in5_6 (e0 e1 e2 : TypeId) : ∀ k, run (.ofNat 5) (.ofNat 6) k e0 e1 e2 = true :=
  ks (fun j => lo5_6 j e0 e1 e2) (fun j => hi5_6 j e0 e1 e2) fun
    | 0, _ => at5_6_0 e0 e1 e2
    | 1, _ => at5_6_1 e0 e1 e2
    | 2, _ => at5_6_2 e0 e1 e2
    | j + 3, h => absurd h (by omega)
theorem lo5_7 (m : Nat) (e0 e1 e2 : TypeId) : run (.ofNat 5) (.ofNat 7) (.negSucc m) e0 e1 e2 = true := by kernel_rfl
theorem hi5_7 (m : Nat) (e0 e1 e2 : TypeId) : run (.ofNat 5) (.ofNat 7) (.ofNat (m + 4)) e0 e1 e2 = true := by kernel_rfl
theorem at5_7_0 (e0 e1 e2 : TypeId) : run (.ofNat 5) (.ofNat 7) (.ofNat 0) e0 e1 e2 = true := by kernel_rfl
theorem at5_7_1 (e0 e1 e2 : TypeId) : run (.ofNat 5) (.ofNat 7) (.ofNat 1) e0 e1 e2 = true := by kernel_rfl
theorem at5_7_2 (e0 e1 e2 : TypeId) : run (.ofNat 5) (.ofNat 7) (.ofNat 2) e0 e1 e2 = true := by kernel_rfl
theorem at5_7_3 (e0 e1 e2 : TypeId) : run (.ofNat 5) (.ofNat 7) (.ofNat 3) e0 e1 e2 = true := by kernel_rfl
theorem in5_7 (e0 e1 e2 : TypeId) : ∀ k, run (.ofNat 5) (.ofNat 7) k e0 e1 e2 = true :=
  ks (fun j => lo5_7 j e0 e1 e2) (fun j => hi5_7 j e0 e1 e2) fun
    | 0, _ => at5_7_0 e0 e1 e2
    | 1, _ => at5_7_1 e0 e1 e2
    | 2, _ => at5_7_2 e0 e1 e2
    | 3, _ => at5_7_3 e0 e1 e2
    | j + 4, h => absurd h (by omega)
theorem lo5_8 (m : Nat) (e0 e1 e2 : TypeId) : run (.ofNat 5) (.ofNat 8) (.negSucc m) e0 e1 e2 = true := by kernel_rfl
theorem hi5_8 (m : Nat) (e0 e1 e2 : TypeId) : run (.ofNat 5) (.ofNat 8) (.ofNat (m + 2)) e0 e1 e2 = true := by kernel_rfl
theorem at5_8_0 (e0 e1 e2 : TypeId) : run (.ofNat 5) (.ofNat 8) (.ofNat 0) e0 e1 e2 = true := by kernel_rfl
theorem at5_8_1 (e0 e1 e2 : TypeId) : run (.ofNat 5) (.ofNat 8) (.ofNat 1) e0 e1 e2 = true := by kernel_rfl
theorem in5_8 (e0 e1 e2 : TypeId) : ∀ k, run (.ofNat 5) (.ofNat 8) k e0 e1 e2 = true :=
  ks (fun j => lo5_8 j e0 e1 e2) (fun j => hi5_8 j e0 e1 e2) fun
    | 0, _ => at5_8_0 e0 e1 e2
    | 1, _ => at5_8_1 e0 e1 e2
    | j + 2, h => absurd h (by omega)
theorem lo5_9 (m : Nat) (e0 e1 e2 : TypeId) : run (.ofNat 5) (.ofNat 9) (.negSucc m) e0 e1 e2 = true := by kernel_rfl
theorem hi5_9 (m : Nat) (e0 e1 e2 : TypeId) : run (.ofNat 5) (.ofNat 9) (.ofNat (m + 3)) e0 e1 e2 = true := by kernel_rfl
theorem at5_9_0 (e0 e1 e2 : TypeId) : run (.ofNat 5) (.ofNat 9) (.ofNat 0) e0 e1 e2 = true := by kernel_rfl
theorem at5_9_1 (e0 e1 e2 : TypeId) : run (.ofNat 5) (.ofNat 9) (.ofNat 1) e0 e1 e2 = true := by kernel_rfl
theorem at5_9_2 (e0 e1 e2 : TypeId) : run (.ofNat 5) (.ofNat 9) (.ofNat 2) e0 e1 e2 = true := by kernel_rfl
theorem in5_9 (e0 e1 e2 : TypeId) : ∀ k, run (.ofNat 5) (.ofNat 9) k e0 e1 e2 = true :=
  ks (fun j => lo5_9 j e0 e1 e2) (fun j => hi5_9 j e0 e1 e2) fun
    | 0, _ => at5_9_0 e0 e1 e2
    | 1, _ => at5_9_1 e0 e1 e2
    | 2, _ => at5_9_2 e0 e1 e2
    | j + 3, h => absurd h (by omega)
theorem lo5_10 (m : Nat) (e0 e1 e2 : TypeId) : run (.ofNat 5) (.ofNat 10) (.negSucc m) e0 e1 e2 = true := by kernel_rfl
theorem hi5_10 (m : Nat) (e0 e1 e2 : TypeId) : run (.ofNat 5) (.ofNat 10) (.ofNat (m + 3)) e0 e1 e2 = true := by kernel_rfl
theorem at5_10_0 (e0 e1 e2 : TypeId) : run (.ofNat 5) (.ofNat 10) (.ofNat 0) e0 e1 e2 = true := by kernel_rfl
theorem at5_10_1 (e0 e1 e2 : TypeId) : run (.ofNat 5) (.ofNat 10) (.ofNat 1) e0 e1 e2 = true := by kernel_rfl
theorem at5_10_2 (e0 e1 e2 : TypeId) : run (.ofNat 5) (.ofNat 10) (.ofNat 2) e0 e1 e2 = true := by kernel_rfl
theorem in5_10 (e0 e1 e2 : TypeId) : ∀ k, run (.ofNat 5) (.ofNat 10) k e0 e1 e2 = true :=
  ks (fun j => lo5_10 j e0 e1 e2) (fun j => hi5_10 j e0 e1 e2) fun
    | 0, _ => at5_10_0 e0 e1 e2
    | 1, _ => at5_10_1 e0 e1 e2
    | 2, _ => at5_10_2 e0 e1 e2
    | j + 3, h => absurd h (by omega)
theorem lo5_11 (m : Nat) (e0 e1 e2 : TypeId) : run (.ofNat 5) (.ofNat 11) (.negSucc m) e0 e1 e2 = true := by kernel_rfl
theorem hi5_11 (m : Nat) (e0 e1 e2 : TypeId) : run (.ofNat 5) (.ofNat 11) (.ofNat (m + 4)) e0 e1 e2 = true := by kernel_rfl
theorem at5_11_0 (e0 e1 e2 : TypeId) : run (.ofNat 5) (.ofNat 11) (.ofNat 0) e0 e1 e2 = true := by kernel_rfl
theorem at5_11_1 (e0 e1 e2 : TypeId) : run (.ofNat 5) (.ofNat 11) (.ofNat 1) e0 e1 e2 = true := by kernel_rfl
theorem at5_11_2 (e0 e1 e2 : TypeId) : run (.ofNat 5) (.ofNat 11) (.ofNat 2) e0 e1 e2 = true := by kernel_rfl
theorem at5_11_3 (e0 e1 e2 : TypeId) : run (.ofNat 5) (.ofNat 11) (.ofNat 3) e0 e1 e2 = true := by kernel_rfl
theorem in5_11 (e0 e1 e2 : TypeId) : ∀ k, run (.ofNat 5) (.ofNat 11) k e0 e1 e2 = true :=
  ks (fun j => lo5_11 j e0 e1 e2) (fun j => hi5_11 j e0 e1 e2) fun
    | 0, _ => at5_11_0 e0 e1 e2
    | 1, _ => at5_11_1 e0 e1 e2
    | 2, _ => at5_11_2 e0 e1 e2
    | 3, _ => at5_11_3 e0 e1 e2
    | j + 4, h => absurd h (by omega)
theorem lo5_12 (m : Nat) (e0 e1 e2 : TypeId) : run (.ofNat 5) (.ofNat 12) (.negSucc m) e0 e1 e2 = true := by kernel_rfl
theorem hi5_12 (m : Nat) (e0 e1 e2 : TypeId) : run (.ofNat 5) (.ofNat 12) (.ofNat (m + 3)) e0 e1 e2 = true := by kernel_rfl
theorem at5_12_0 (e0 e1 e2 : TypeId) : run (.ofNat 5) (.ofNat 12) (.ofNat 0) e0 e1 e2 = true := by kernel_rfl
theorem at5_12_1 (e0 e1 e2 : TypeId) : run (.ofNat 5) (.ofNat 12) (.ofNat 1) e0 e1 e2 = true := by kernel_rfl
theorem at5_12_2 (e0 e1 e2 : TypeId) : run (.ofNat 5) (.ofNat 12) (.ofNat 2) e0 e1 e2 = true := by kernel_rfl
theorem in5_12 (e0 e1 e2 : TypeId) : ∀ k, run (.ofNat 5) (.ofNat 12) k e0 e1 e2 = true :=
  ks (fun j => lo5_12 j e0 e1 e2) (fun j => hi5_12 j e0 e1 e2) fun
    | 0, _ => at5_12_0 e0 e1 e2
    | 1, _ => at5_12_1 e0 e1 e2
    | 2, _ => at5_12_2 e0 e1 e2
    | j + 3, h => absurd h (by omega)
theorem lo5_13 (m : Nat) (e0 e1 e2 : TypeId) : run (.ofNat 5) (.ofNat 13) (.negSucc m) e0 e1 e2 = true := by kernel_rfl
theorem hi5_13 (m : Nat) (e0 e1 e2 : TypeId) : run (.ofNat 5) (.ofNat 13) (.ofNat (m + 4)) e0 e1 e2 = true := by kernel_rfl
theorem at5_13_0 (e0 e1 e2 : TypeId) : run (.ofNat 5) (.ofNat 13) (.ofNat 0) e0 e1 e2 = true := by kernel_rfl
theorem at5_13_1 (e0 e1 e2 : TypeId) : run (.ofNat 5) (.ofNat 13) (.ofNat 1) e0 e1 e2 = true := by kernel_rfl
theorem at5_13_2 (e0 e1 e2 : TypeId) : run (.ofNat 5) (.ofNat 13) (.ofNat 2) e0 e1 e2 = true := by kernel_rfl
theorem at5_13_3 (e0 e1 e2 : TypeId) : run (.ofNat 5) (.ofNat 13) (.ofNat 3) e0 e1 e2 = true := by kernel_rfl
theorem in5_13 (e0 e1 e2 : TypeId) : ∀ k, run (.ofNat 5) (.ofNat 13) k e0 e1 e2 = true :=
  ks (fun j => lo5_13 j e0 e1 e2) (fun j => hi5_13 j e0 e1 e2) fun
    | 0, _ => at5_13_0 e0 e1 e2
    | 1, _ => at5_13_1 e0 e1 e2
    | 2, _ => at5_13_2 e0 e1 e2
    | 3, _ => at5_13_3 e0 e1 e2
    | j + 4, h => absurd h (by omega)
theorem lo5_14 (m : Nat) (e0 e1 e2 : TypeId) : run (.ofNat 5) (.ofNat 14) (.negSucc m) e0 e1 e2 = true := by kernel_rfl
theorem hi5_14 (m : Nat) (e0 e1 e2 : TypeId) : run (.ofNat 5) (.ofNat 14) (.ofNat (m + 4)) e0 e1 e2 = true := by kernel_rfl
theorem at5_14_0 (e0 e1 e2 : TypeId) : run (.ofNat 5) (.ofNat 14) (.ofNat 0) e0 e1 e2 = true := by kernel_rfl
theorem at5_14_1 (e0 e1 e2 : TypeId) : run (.ofNat 5) (.ofNat 14) (.ofNat 1) e0 e1 e2 = true := by kernel_rfl
theorem at5_14_2 (e0 e1 e2 : TypeId) : run (.ofNat 5) (.ofNat 14) (.ofNat 2) e0 e1 e2 = true := by kernel_rfl
theorem at5_14_3 (e0 e1 e2 : TypeId) : run (.ofNat 5) (.ofNat 14) (.ofNat 3) e0 e1 e2 = true := by kernel_rfl
theorem in5_14 (e0 e1 e2 : TypeId) : ∀ k, run (.ofNat 5) (.ofNat 14) k e0 e1 e2 = true :=
  ks (fun j => lo5_14 j e0 e1 e2) (fun j => hi5_14 j e0 e1 e2) fun
    | 0, _ => at5_14_0 e0 e1 e2
    | 1, _ => at5_14_1 e0 e1 e2
    | 2, _ => at5_14_2 e0 e1 e2
    | 3, _ => at5_14_3 e0 e1 e2
    | j + 4, h => absurd h (by omega)
theorem lo5_15 (m : Nat) (e0 e1 e2 : TypeId) : run (.ofNat 5) (.ofNat 15) (.negSucc m) e0 e1 e2 = true := by kernel_rfl
theorem hi5_15 (m : Nat) (e0 e1 e2 : TypeId) : run (.ofNat 5) (.ofNat 15) (.ofNat (m + 5)) e0 e1 e2 = true := by kernel_rfl
theorem at5_15_0 (e0 e1 e2 : TypeId) : run (.ofNat 5) (.ofNat 15) (.ofNat 0) e0 e1 e2 = true := by kernel_rfl
theorem at5_15_1 (e0 e1 e2 : TypeId) : run (.ofNat 5) (.ofNat 15) (.ofNat 1) e0 e1 e2 = true := by kernel_rfl
theorem at5_15_2 (e0 e1 e2 : TypeId) : run (.ofNat 5) (.ofNat 15) (.ofNat 2) e0 e1 e2 = true := by kernel_rfl
theorem at5_15_3 (e0 e1 e2 : TypeId) : run (.ofNat 5) (.ofNat 15) (.ofNat 3) e0 e1 e2 = true := by kernel_rfl
theorem at5_15_4 (e0 e1 e2 : TypeId) : run (.ofNat 5) (.ofNat 15) (.ofNat 4) e0 e1 e2 = true := by kernel_rfl
theorem in5_15 (e0 e1 e2 : TypeId) : ∀ k, run (.ofNat 5) (.ofNat 15) k e0 e1 e2 = true :=
  ks (fun j => lo5_15 j e0 e1 e2) (fun j => hi5_15 j e0 e1 e2) fun
    | 0, _ => at5_15_0 e0 e1 e2
    | 1, _ => at5_15_1 e0 e1 e2
    | 2, _ => at5_15_2 e0 e1 e2
    | 3, _ => at5_15_3 e0 e1 e2
    | 4, _ => at5_15_4 e0 e1 e2
    | j + 5, h => absurd h (by omega)
theorem lo5_16 (m : Nat) (e0 e1 e2 : TypeId) : run (.ofNat 5) (.ofNat 16) (.negSucc m) e0 e1 e2 = true := by kernel_rfl
theorem hi5_16 (m : Nat) (e0 e1 e2 : TypeId) : run (.ofNat 5) (.ofNat 16) (.ofNat (m + 2)) e0 e1 e2 = true := by kernel_rfl
theorem at5_16_0 (e0 e1 e2 : TypeId) : run (.ofNat 5) (.ofNat 16) (.ofNat 0) e0 e1 e2 = true := by kernel_rfl
theorem at5_16_1 (e0 e1 e2 : TypeId) : run (.ofNat 5) (.ofNat 16) (.ofNat 1) e0 e1 e2 = true := by kernel_rfl
theorem in5_16 (e0 e1 e2 : TypeId) : ∀ k, run (.ofNat 5) (.ofNat 16) k e0 e1 e2 = true :=
  ks (fun j => lo5_16 j e0 e1 e2) (fun j => hi5_16 j e0 e1 e2) fun
    | 0, _ => at5_16_0 e0 e1 e2
    | 1, _ => at5_16_1 e0 e1 e2
    | j + 2, h => absurd h (by omega)
theorem lo5_17 (m : Nat) (e0 e1 e2 : TypeId) : run (.ofNat 5) (.ofNat 17) (.negSucc m) e0 e1 e2 = true := by kernel_rfl
theorem hi5_17 (m : Nat) (e0 e1 e2 : TypeId) : run (.ofNat 5) (.ofNat 17) (.ofNat (m + 3)) e0 e1 e2 = true := by kernel_rfl
theorem at5_17_0 (e0 e1 e2 : TypeId) : run (.ofNat 5) (.ofNat 17) (.ofNat 0) e0 e1 e2 = true := by kernel_rfl
theorem at5_17_1 (e0 e1 e2 : TypeId) : run (.ofNat 5) (.ofNat 17) (.ofNat 1) e0 e1 e2 = true := by kernel_rfl
theorem at5_17_2 (e0 e1 e2 : TypeId) : run (.ofNat 5) (.ofNat 17) (.ofNat 2) e0 e1 e2 = true := by kernel_rfl
theorem in5_17 (e0 e1 e2 : TypeId) : ∀ k, run (.ofNat 5) (.ofNat 17) k e0 e1 e2 = true :=
  ks (fun j => lo5_17 j e0 e1 e2) (fun j => hi5_17 j e0 e1 e2) fun
    | 0, _ => at5_17_0 e0 e1 e2
    | 1, _ => at5_17_1 e0 e1 e2
    | 2, _ => at5_17_2 e0 e1 e2
    | j + 3, h => absurd h (by omega)
theorem lo5_18 (m : Nat) (e0 e1 e2 : TypeId) : run (.ofNat 5) (.ofNat 18) (.negSucc m) e0 e1 e2 = true := by kernel_rfl
theorem hi5_18 (m : Nat) (e0 e1 e2 : TypeId) : run (.ofNat 5) (.ofNat 18) (.ofNat (m + 3)) e0 e1 e2 = true := by kernel_rfl
theorem at5_18_0 (e0 e1 e2 : TypeId) : run (.ofNat 5) (.ofNat 18) (.ofNat 0) e0 e1 e2 = true := by kernel_rfl
theorem at5_18_1 (e0 e1 e2 : TypeId) : run (.ofNat 5) (.ofNat 18) (.ofNat 1) e0 e1 e2 = true := by kernel_rfl
theorem at5_18_2 (e0 e1 e2 : TypeId) : run (.ofNat 5) (.ofNat 18) (.ofNat 2) e0 e1 e2 = true := by kernel_rfl
theorem in5_18 (e0 e1 e2 : TypeId) : ∀ k, run (.ofNat 5) (.ofNat 18) k e0 e1 e2 = true :=
  ks (fun j => lo5_18 j e0 e1 e2) (fun j => hi5_18 j e0 e1 e2) fun
    | 0, _ => at5_18_0 e0 e1 e2
    | 1, _ => at5_18_1 e0 e1 e2
    | 2, _ => at5_18_2 e0 e1 e2
    | j + 3, h => absurd h (by omega)
theorem lo5_19 (m : Nat) (e0 e1 e2 : TypeId) : run (.ofNat 5) (.ofNat 19) (.negSucc m) e0 e1 e2 = true := by kernel_rfl
theorem hi5_19 (m : Nat) (e0 e1 e2 : TypeId) : run (.ofNat 5) (.ofNat 19) (.ofNat (m + 4)) e0 e1 e2 = true := by kernel_rfl
theorem at5_19_0 (e0 e1 e2 : TypeId) : run (.ofNat 5) (.ofNat 19) (.ofNat 0) e0 e1 e2 = true := by kernel_rfl
theorem at5_19_1 (e0 e1 e2 : TypeId) : run (.ofNat 5) (.ofNat 19) (.ofNat 1) e0 e1 e2 = true := by kernel_rfl
theorem at5_19_2 (e0 e1 e2 : TypeId) : run (.ofNat 5) (.ofNat 19) (.ofNat 2) e0 e1 e2 = true := by kernel_rfl
theorem at5_19_3 (e0 e1 e2 : TypeId) : run (.ofNat 5) (.ofNat 19) (.ofNat 3) e0 e1 e2 = true := by kernel_rfl
theorem in5_19 (e0 e1 e2 : TypeId) : ∀ k, run (.ofNat 5) (.ofNat 19) k e0 e1 e2 = true :=
  ks (fun j => lo5_19 j e0 e1 e2) (fun j => hi5_19 j e0 e1 e2) fun
    | 0, _ => at5_19_0 e0 e1 e2
    | 1, _ => at5_19_1 e0 e1 e2
    | 2, _ => at5_19_2 e0 e1 e2
    | 3, _ => at5_19_3 e0 e1 e2
    | j + 4, h => absurd h (by omega)
end Go.Proofs.YtpdlnijdcgcfbaaDoor.procsetMirrors
