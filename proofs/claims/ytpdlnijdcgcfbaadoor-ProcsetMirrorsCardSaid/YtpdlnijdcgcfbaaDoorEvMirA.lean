/-
  ProcsetMirrors: cases, by the kernel.
-/
import Derived.Test.YtpdlnijdcgcfbaaDoorEvMirBase
namespace Go.Proofs.YtpdlnijdcgcfbaaDoor.procsetMirrors
open Go Go.Ev Go.RowKit
open Go.Proofs.YtpdlnijdcgcfbaaDoor.Ev
theorem lo1_0 (m : Nat) (e0 e1 e2 : TypeId) : run (.ofNat 1) (.ofNat 0) (.negSucc m) e0 e1 e2 = true := by kernel_rfl
theorem hi1_0 (m : Nat) (e0 e1 e2 : TypeId) : run (.ofNat 1) (.ofNat 0) (.ofNat (m + 1)) e0 e1 e2 = true := by kernel_rfl
theorem at1_0_0 (e0 e1 e2 : TypeId) : run (.ofNat 1) (.ofNat 0) (.ofNat 0) e0 e1 e2 = true := by kernel_rfl
theorem in1_0 (e0 e1 e2 : TypeId) : ∀ k, run (.ofNat 1) (.ofNat 0) k e0 e1 e2 = true :=
  ks (fun j => lo1_0 j e0 e1 e2) (fun j => hi1_0 j e0 e1 e2) fun
    | 0, _ => at1_0_0 e0 e1 e2
    | j + 1, h => absurd h (by omega)
theorem lo1_1 (m : Nat) (e0 e1 e2 : TypeId) : run (.ofNat 1) (.ofNat 1) (.negSucc m) e0 e1 e2 = true := by kernel_rfl
theorem hi1_1 (m : Nat) (e0 e1 e2 : TypeId) : run (.ofNat 1) (.ofNat 1) (.ofNat (m + 2)) e0 e1 e2 = true := by kernel_rfl
theorem at1_1_0 (e0 e1 e2 : TypeId) : run (.ofNat 1) (.ofNat 1) (.ofNat 0) e0 e1 e2 = true := by kernel_rfl
theorem at1_1_1 (e0 e1 e2 : TypeId) : run (.ofNat 1) (.ofNat 1) (.ofNat 1) e0 e1 e2 = true := by kernel_rfl
theorem in1_1 (e0 e1 e2 : TypeId) : ∀ k, run (.ofNat 1) (.ofNat 1) k e0 e1 e2 = true :=
  ks (fun j => lo1_1 j e0 e1 e2) (fun j => hi1_1 j e0 e1 e2) fun
    | 0, _ => at1_1_0 e0 e1 e2
    | 1, _ => at1_1_1 e0 e1 e2
    | j + 2, h => absurd h (by omega)
theorem lo2_0 (m : Nat) (e0 e1 e2 : TypeId) : run (.ofNat 2) (.ofNat 0) (.negSucc m) e0 e1 e2 = true := by kernel_rfl
theorem hi2_0 (m : Nat) (e0 e1 e2 : TypeId) : run (.ofNat 2) (.ofNat 0) (.ofNat (m + 1)) e0 e1 e2 = true := by kernel_rfl
theorem at2_0_0 (e0 e1 e2 : TypeId) : run (.ofNat 2) (.ofNat 0) (.ofNat 0) e0 e1 e2 = true := by kernel_rfl
theorem in2_0 (e0 e1 e2 : TypeId) : ∀ k, run (.ofNat 2) (.ofNat 0) k e0 e1 e2 = true :=
  ks (fun j => lo2_0 j e0 e1 e2) (fun j => hi2_0 j e0 e1 e2) fun
    | 0, _ => at2_0_0 e0 e1 e2
    | j + 1, h => absurd h (by omega)
theorem lo2_1 (m : Nat) (e0 e1 e2 : TypeId) : run (.ofNat 2) (.ofNat 1) (.negSucc m) e0 e1 e2 = true := by kernel_rfl
theorem hi2_1 (m : Nat) (e0 e1 e2 : TypeId) : run (.ofNat 2) (.ofNat 1) (.ofNat (m + 2)) e0 e1 e2 = true := by kernel_rfl
theorem at2_1_0 (e0 e1 e2 : TypeId) : run (.ofNat 2) (.ofNat 1) (.ofNat 0) e0 e1 e2 = true := by kernel_rfl
theorem at2_1_1 (e0 e1 e2 : TypeId) : run (.ofNat 2) (.ofNat 1) (.ofNat 1) e0 e1 e2 = true := by kernel_rfl
theorem in2_1 (e0 e1 e2 : TypeId) : ∀ k, run (.ofNat 2) (.ofNat 1) k e0 e1 e2 = true :=
  ks (fun j => lo2_1 j e0 e1 e2) (fun j => hi2_1 j e0 e1 e2) fun
    | 0, _ => at2_1_0 e0 e1 e2
    | 1, _ => at2_1_1 e0 e1 e2
    | j + 2, h => absurd h (by omega)
theorem lo2_2 (m : Nat) (e0 e1 e2 : TypeId) : run (.ofNat 2) (.ofNat 2) (.negSucc m) e0 e1 e2 = true := by kernel_rfl
theorem hi2_2 (m : Nat) (e0 e1 e2 : TypeId) : run (.ofNat 2) (.ofNat 2) (.ofNat (m + 2)) e0 e1 e2 = true := by kernel_rfl
theorem at2_2_0 (e0 e1 e2 : TypeId) : run (.ofNat 2) (.ofNat 2) (.ofNat 0) e0 e1 e2 = true := by kernel_rfl
theorem at2_2_1 (e0 e1 e2 : TypeId) : run (.ofNat 2) (.ofNat 2) (.ofNat 1) e0 e1 e2 = true := by kernel_rfl
theorem in2_2 (e0 e1 e2 : TypeId) : ∀ k, run (.ofNat 2) (.ofNat 2) k e0 e1 e2 = true :=
  ks (fun j => lo2_2 j e0 e1 e2) (fun j => hi2_2 j e0 e1 e2) fun
    | 0, _ => at2_2_0 e0 e1 e2
    | 1, _ => at2_2_1 e0 e1 e2
    | j + 2, h => absurd h (by omega)
theorem lo2_3 (m : Nat) (e0 e1 e2 : TypeId) : run (.ofNat 2) (.ofNat 3) (.negSucc m) e0 e1 e2 = true := by kernel_rfl
theorem hi2_3 (m : Nat) (e0 e1 e2 : TypeId) : run (.ofNat 2) (.ofNat 3) (.ofNat (m + 3)) e0 e1 e2 = true := by kernel_rfl
theorem at2_3_0 (e0 e1 e2 : TypeId) : run (.ofNat 2) (.ofNat 3) (.ofNat 0) e0 e1 e2 = true := by kernel_rfl
theorem at2_3_1 (e0 e1 e2 : TypeId) : run (.ofNat 2) (.ofNat 3) (.ofNat 1) e0 e1 e2 = true := by kernel_rfl
theorem at2_3_2 (e0 e1 e2 : TypeId) : run (.ofNat 2) (.ofNat 3) (.ofNat 2) e0 e1 e2 = true := by kernel_rfl
theorem in2_3 (e0 e1 e2 : TypeId) : ∀ k, run (.ofNat 2) (.ofNat 3) k e0 e1 e2 = true :=
  ks (fun j => lo2_3 j e0 e1 e2) (fun j => hi2_3 j e0 e1 e2) fun
    | 0, _ => at2_3_0 e0 e1 e2
    | 1, _ => at2_3_1 e0 e1 e2
    | 2, _ => at2_3_2 e0 e1 e2
    | j + 3, h => absurd h (by omega)
theorem lo3_0 (m : Nat) (e0 e1 e2 : TypeId) : run (.ofNat 3) (.ofNat 0) (.negSucc m) e0 e1 e2 = true := by kernel_rfl
theorem hi3_0 (m : Nat) (e0 e1 e2 : TypeId) : run (.ofNat 3) (.ofNat 0) (.ofNat (m + 1)) e0 e1 e2 = true := by kernel_rfl
theorem at3_0_0 (e0 e1 e2 : TypeId) : run (.ofNat 3) (.ofNat 0) (.ofNat 0) e0 e1 e2 = true := by kernel_rfl
theorem in3_0 (e0 e1 e2 : TypeId) : ∀ k, run (.ofNat 3) (.ofNat 0) k e0 e1 e2 = true :=
  ks (fun j => lo3_0 j e0 e1 e2) (fun j => hi3_0 j e0 e1 e2) fun
    | 0, _ => at3_0_0 e0 e1 e2
    | j + 1, h => absurd h (by omega)
theorem lo3_1 (m : Nat) (e0 e1 e2 : TypeId) : run (.ofNat 3) (.ofNat 1) (.negSucc m) e0 e1 e2 = true := by kernel_rfl
theorem hi3_1 (m : Nat) (e0 e1 e2 : TypeId) : run (.ofNat 3) (.ofNat 1) (.ofNat (m + 2)) e0 e1 e2 = true := by kernel_rfl
theorem at3_1_0 (e0 e1 e2 : TypeId) : run (.ofNat 3) (.ofNat 1) (.ofNat 0) e0 e1 e2 = true := by kernel_rfl
theorem at3_1_1 (e0 e1 e2 : TypeId) : run (.ofNat 3) (.ofNat 1) (.ofNat 1) e0 e1 e2 = true := by kernel_rfl
theorem in3_1 (e0 e1 e2 : TypeId) : ∀ k, run (.ofNat 3) (.ofNat 1) k e0 e1 e2 = true :=
  ks (fun j => lo3_1 j e0 e1 e2) (fun j => hi3_1 j e0 e1 e2) fun
    | 0, _ => at3_1_0 e0 e1 e2
    | 1, _ => at3_1_1 e0 e1 e2
    | j + 2, h => absurd h (by omega)
theorem lo3_2 (m : Nat) (e0 e1 e2 : TypeId) : run (.ofNat 3) (.ofNat 2) (.negSucc m) e0 e1 e2 = true := by kernel_rfl
theorem hi3_2 (m : Nat) (e0 e1 e2 : TypeId) : run (.ofNat 3) (.ofNat 2) (.ofNat (m + 2)) e0 e1 e2 = true := by kernel_rfl
theorem at3_2_0 (e0 e1 e2 : TypeId) : run (.ofNat 3) (.ofNat 2) (.ofNat 0) e0 e1 e2 = true := by kernel_rfl
theorem at3_2_1 (e0 e1 e2 : TypeId) : run (.ofNat 3) (.ofNat 2) (.ofNat 1) e0 e1 e2 = true := by kernel_rfl
theorem in3_2 (e0 e1 e2 : TypeId) : ∀ k, run (.ofNat 3) (.ofNat 2) k e0 e1 e2 = true :=
  ks (fun j => lo3_2 j e0 e1 e2) (fun j => hi3_2 j e0 e1 e2) fun
    | 0, _ => at3_2_0 e0 e1 e2
    | 1, _ => at3_2_1 e0 e1 e2
    | j + 2, h => absurd h (by omega)
theorem lo3_3 (m : Nat) (e0 e1 e2 : TypeId) : run (.ofNat 3) (.ofNat 3) (.negSucc m) e0 e1 e2 = true := by kernel_rfl
theorem hi3_3 (m : Nat) (e0 e1 e2 : TypeId) : run (.ofNat 3) (.ofNat 3) (.ofNat (m + 3)) e0 e1 e2 = true := by kernel_rfl
theorem at3_3_0 (e0 e1 e2 : TypeId) : run (.ofNat 3) (.ofNat 3) (.ofNat 0) e0 e1 e2 = true := by kernel_rfl
theorem at3_3_1 (e0 e1 e2 : TypeId) : run (.ofNat 3) (.ofNat 3) (.ofNat 1) e0 e1 e2 = true := by kernel_rfl
theorem at3_3_2 (e0 e1 e2 : TypeId) : run (.ofNat 3) (.ofNat 3) (.ofNat 2) e0 e1 e2 = true := by kernel_rfl
theorem in3_3 (e0 e1 e2 : TypeId) : ∀ k, run (.ofNat 3) (.ofNat 3) k e0 e1 e2 = true :=
  ks (fun j => lo3_3 j e0 e1 e2) (fun j => hi3_3 j e0 e1 e2) fun
    | 0, _ => at3_3_0 e0 e1 e2
    | 1, _ => at3_3_1 e0 e1 e2
    | 2, _ => at3_3_2 e0 e1 e2
    | j + 3, h => absurd h (by omega)
theorem lo3_4 (m : Nat) (e0 e1 e2 : TypeId) : run (.ofNat 3) (.ofNat 4) (.negSucc m) e0 e1 e2 = true := by kernel_rfl
theorem hi3_4 (m : Nat) (e0 e1 e2 : TypeId) : run (.ofNat 3) (.ofNat 4) (.ofNat (m + 2)) e0 e1 e2 = true := by kernel_rfl
theorem at3_4_0 (e0 e1 e2 : TypeId) : run (.ofNat 3) (.ofNat 4) (.ofNat 0) e0 e1 e2 = true := by kernel_rfl
theorem at3_4_1 (e0 e1 e2 : TypeId) : run (.ofNat 3) (.ofNat 4) (.ofNat 1) e0 e1 e2 = true := by kernel_rfl
theorem in3_4 (e0 e1 e2 : TypeId) : ∀ k, run (.ofNat 3) (.ofNat 4) k e0 e1 e2 = true :=
  ks (fun j => lo3_4 j e0 e1 e2) (fun j => hi3_4 j e0 e1 e2) fun
    | 0, _ => at3_4_0 e0 e1 e2
    | 1, _ => at3_4_1 e0 e1 e2
    | j + 2, h => absurd h (by omega)
theorem lo3_5 (m : Nat) (e0 e1 e2 : TypeId) : run (.ofNat 3) (.ofNat 5) (.negSucc m) e0 e1 e2 = true := by kernel_rfl
theorem hi3_5 (m : Nat) (e0 e1 e2 : TypeId) : run (.ofNat 3) (.ofNat 5) (.ofNat (m + 3)) e0 e1 e2 = true := by kernel_rfl
theorem at3_5_0 (e0 e1 e2 : TypeId) : run (.ofNat 3) (.ofNat 5) (.ofNat 0) e0 e1 e2 = true := by kernel_rfl
theorem at3_5_1 (e0 e1 e2 : TypeId) : run (.ofNat 3) (.ofNat 5) (.ofNat 1) e0 e1 e2 = true := by kernel_rfl
theorem at3_5_2 (e0 e1 e2 : TypeId) : run (.ofNat 3) (.ofNat 5) (.ofNat 2) e0 e1 e2 = true := by kernel_rfl
theorem in3_5 (e0 e1 e2 : TypeId) : ∀ k, run (.ofNat 3) (.ofNat 5) k e0 e1 e2 = true :=
  ks (fun j => lo3_5 j e0 e1 e2) (fun j => hi3_5 j e0 e1 e2) fun
    | 0, _ => at3_5_0 e0 e1 e2
    | 1, _ => at3_5_1 e0 e1 e2
    | 2, _ => at3_5_2 e0 e1 e2
    | j + 3, h => absurd h (by omega)
theorem lo3_6 (m : Nat) (e0 e1 e2 : TypeId) : run (.ofNat 3) (.ofNat 6) (.negSucc m) e0 e1 e2 = true := by kernel_rfl
theorem hi3_6 (m : Nat) (e0 e1 e2 : TypeId) : run (.ofNat 3) (.ofNat 6) (.ofNat (m + 3)) e0 e1 e2 = true := by kernel_rfl
theorem at3_6_0 (e0 e1 e2 : TypeId) : run (.ofNat 3) (.ofNat 6) (.ofNat 0) e0 e1 e2 = true := by kernel_rfl
theorem at3_6_1 (e0 e1 e2 : TypeId) : run (.ofNat 3) (.ofNat 6) (.ofNat 1) e0 e1 e2 = true := by kernel_rfl
theorem at3_6_2 (e0 e1 e2 : TypeId) : run (.ofNat 3) (.ofNat 6) (.ofNat 2) e0 e1 e2 = true := by kernel_rfl
theorem in3_6 (e0 e1 e2 : TypeId) : ∀ k, run (.ofNat 3) (.ofNat 6) k e0 e1 e2 = true :=
  ks (fun j => lo3_6 j e0 e1 e2) (fun j => hi3_6 j e0 e1 e2) fun
    | 0, _ => at3_6_0 e0 e1 e2
    | 1, _ => at3_6_1 e0 e1 e2
    | 2, _ => at3_6_2 e0 e1 e2
    | j + 3, h => absurd h (by omega)
theorem lo3_7 (m : Nat) (e0 e1 e2 : TypeId) : run (.ofNat 3) (.ofNat 7) (.negSucc m) e0 e1 e2 = true := by kernel_rfl
theorem hi3_7 (m : Nat) (e0 e1 e2 : TypeId) : run (.ofNat 3) (.ofNat 7) (.ofNat (m + 4)) e0 e1 e2 = true := by kernel_rfl
theorem at3_7_0 (e0 e1 e2 : TypeId) : run (.ofNat 3) (.ofNat 7) (.ofNat 0) e0 e1 e2 = true := by kernel_rfl
theorem at3_7_1 (e0 e1 e2 : TypeId) : run (.ofNat 3) (.ofNat 7) (.ofNat 1) e0 e1 e2 = true := by kernel_rfl
theorem at3_7_2 (e0 e1 e2 : TypeId) : run (.ofNat 3) (.ofNat 7) (.ofNat 2) e0 e1 e2 = true := by kernel_rfl
theorem at3_7_3 (e0 e1 e2 : TypeId) : run (.ofNat 3) (.ofNat 7) (.ofNat 3) e0 e1 e2 = true := by kernel_rfl
theorem in3_7 (e0 e1 e2 : TypeId) : ∀ k, run (.ofNat 3) (.ofNat 7) k e0 e1 e2 = true :=
  ks (fun j => lo3_7 j e0 e1 e2) (fun j => hi3_7 j e0 e1 e2) fun
    | 0, _ => at3_7_0 e0 e1 e2
    | 1, _ => at3_7_1 e0 e1 e2
    | 2, _ => at3_7_2 e0 e1 e2
    | 3, _ => at3_7_3 e0 e1 e2
    | j + 4, h => absurd h (by omega)
theorem lo4_0 (m : Nat) (e0 e1 e2 : TypeId) : run (.ofNat 4) (.ofNat 0) (.negSucc m) e0 e1 e2 = true := by kernel_rfl
theorem hi4_0 (m : Nat) (e0 e1 e2 : TypeId) : run (.ofNat 4) (.ofNat 0) (.ofNat (m + 1)) e0 e1 e2 = true := by kernel_rfl
theorem at4_0_0 (e0 e1 e2 : TypeId) : run (.ofNat 4) (.ofNat 0) (.ofNat 0) e0 e1 e2 = true := by kernel_rfl
theorem in4_0 (e0 e1 e2 : TypeId) : ∀ k, run (.ofNat 4) (.ofNat 0) k e0 e1 e2 = true :=
  ks (fun j => lo4_0 j e0 e1 e2) (fun j => hi4_0 j e0 e1 e2) fun
    | 0, _ => at4_0_0 e0 e1 e2
    | j + 1, h => absurd h (by omega)
theorem lo4_1 (m : Nat) (e0 e1 e2 : TypeId) : run (.ofNat 4) (.ofNat 1) (.negSucc m) e0 e1 e2 = true := by kernel_rfl
theorem hi4_1 (m : Nat) (e0 e1 e2 : TypeId) : run (.ofNat 4) (.ofNat 1) (.ofNat (m + 2)) e0 e1 e2 = true := by kernel_rfl
theorem at4_1_0 (e0 e1 e2 : TypeId) : run (.ofNat 4) (.ofNat 1) (.ofNat 0) e0 e1 e2 = true := by kernel_rfl
theorem at4_1_1 (e0 e1 e2 : TypeId) : run (.ofNat 4) (.ofNat 1) (.ofNat 1) e0 e1 e2 = true := by kernel_rfl
theorem in4_1 (e0 e1 e2 : TypeId) : ∀ k, run (.ofNat 4) (.ofNat 1) k e0 e1 e2 = true :=
  ks (fun j => lo4_1 j e0 e1 e2) (fun j => hi4_1 j e0 e1 e2) fun
    | 0, _ => at4_1_0 e0 e1 e2
    | 1, _ => at4_1_1 e0 e1 e2
    | j + 2, h => absurd h (by omega)
theorem lo4_2 (m : Nat) (e0 e1 e2 : TypeId) : run (.ofNat 4) (.ofNat 2) (.negSucc m) e0 e1 e2 = true := by kernel_rfl
theorem hi4_2 (m : Nat) (e0 e1 e2 : TypeId) : run (.ofNat 4) (.ofNat 2) (.ofNat (m + 2)) e0 e1 e2 = true := by kernel_rfl
theorem at4_2_0 (e0 e1 e2 : TypeId) : run (.ofNat 4) (.ofNat 2) (.ofNat 0) e0 e1 e2 = true := by kernel_rfl
theorem at4_2_1 (e0 e1 e2 : TypeId) : run (.ofNat 4) (.ofNat 2) (.ofNat 1) e0 e1 e2 = true := by kernel_rfl
theorem in4_2 (e0 e1 e2 : TypeId) : ∀ k, run (.ofNat 4) (.ofNat 2) k e0 e1 e2 = true :=
  ks (fun j => lo4_2 j e0 e1 e2) (fun j => hi4_2 j e0 e1 e2) fun
    | 0, _ => at4_2_0 e0 e1 e2
    | 1, _ => at4_2_1 e0 e1 e2
    | j + 2, h => absurd h (by omega)
theorem lo4_3 (m : Nat) (e0 e1 e2 : TypeId) : run (.ofNat 4) (.ofNat 3) (.negSucc m) e0 e1 e2 = true := by kernel_rfl
theorem hi4_3 (m : Nat) (e0 e1 e2 : TypeId) : run (.ofNat 4) (.ofNat 3) (.ofNat (m + 3)) e0 e1 e2 = true := by kernel_rfl
theorem at4_3_0 (e0 e1 e2 : TypeId) : run (.ofNat 4) (.ofNat 3) (.ofNat 0) e0 e1 e2 = true := by kernel_rfl
theorem at4_3_1 (e0 e1 e2 : TypeId) : run (.ofNat 4) (.ofNat 3) (.ofNat 1) e0 e1 e2 = true := by kernel_rfl
theorem at4_3_2 (e0 e1 e2 : TypeId) : run (.ofNat 4) (.ofNat 3) (.ofNat 2) e0 e1 e2 = true := by kernel_rfl
theorem in4_3 (e0 e1 e2 : TypeId) : ∀ k, run (.ofNat 4) (.ofNat 3) k e0 e1 e2 = true :=
  ks (fun j => lo4_3 j e0 e1 e2) (fun j => hi4_3 j e0 e1 e2) fun
    | 0, _ => at4_3_0 e0 e1 e2
    | 1, _ => at4_3_1 e0 e1 e2
    | 2, _ => at4_3_2 e0 e1 e2
    | j + 3, h => absurd h (by omega)
theorem lo4_4 (m : Nat) (e0 e1 e2 : TypeId) : run (.ofNat 4) (.ofNat 4) (.negSucc m) e0 e1 e2 = true := by kernel_rfl
theorem hi4_4 (m : Nat) (e0 e1 e2 : TypeId) : run (.ofNat 4) (.ofNat 4) (.ofNat (m + 2)) e0 e1 e2 = true := by kernel_rfl
theorem at4_4_0 (e0 e1 e2 : TypeId) : run (.ofNat 4) (.ofNat 4) (.ofNat 0) e0 e1 e2 = true := by kernel_rfl
theorem at4_4_1 (e0 e1 e2 : TypeId) : run (.ofNat 4) (.ofNat 4) (.ofNat 1) e0 e1 e2 = true := by kernel_rfl
theorem in4_4 (e0 e1 e2 : TypeId) : ∀ k, run (.ofNat 4) (.ofNat 4) k e0 e1 e2 = true :=
  ks (fun j => lo4_4 j e0 e1 e2) (fun j => hi4_4 j e0 e1 e2) fun
    | 0, _ => at4_4_0 e0 e1 e2
    | 1, _ => at4_4_1 e0 e1 e2
    | j + 2, h => absurd h (by omega)
theorem lo4_5 (m : Nat) (e0 e1 e2 : TypeId) : run (.ofNat 4) (.ofNat 5) (.negSucc m) e0 e1 e2 = true := by kernel_rfl
theorem hi4_5 (m : Nat) (e0 e1 e2 : TypeId) : run (.ofNat 4) (.ofNat 5) (.ofNat (m + 3)) e0 e1 e2 = true := by kernel_rfl
theorem at4_5_0 (e0 e1 e2 : TypeId) : run (.ofNat 4) (.ofNat 5) (.ofNat 0) e0 e1 e2 = true := by kernel_rfl
theorem at4_5_1 (e0 e1 e2 : TypeId) : run (.ofNat 4) (.ofNat 5) (.ofNat 1) e0 e1 e2 = true := by kernel_rfl
theorem at4_5_2 (e0 e1 e2 : TypeId) : run (.ofNat 4) (.ofNat 5) (.ofNat 2) e0 e1 e2 = true := by kernel_rfl
theorem in4_5 (e0 e1 e2 : TypeId) : ∀ k, run (.ofNat 4) (.ofNat 5) k e0 e1 e2 = true :=
  ks (fun j => lo4_5 j e0 e1 e2) (fun j => hi4_5 j e0 e1 e2) fun
    | 0, _ => at4_5_0 e0 e1 e2
    | 1, _ => at4_5_1 e0 e1 e2
    | 2, _ => at4_5_2 e0 e1 e2
    | j + 3, h => absurd h (by omega)
theorem lo4_6 (m : Nat) (e0 e1 e2 : TypeId) : run (.ofNat 4) (.ofNat 6) (.negSucc m) e0 e1 e2 = true := by kernel_rfl
theorem hi4_6 (m : Nat) (e0 e1 e2 : TypeId) : run (.ofNat 4) (.ofNat 6) (.ofNat (m + 3)) e0 e1 e2 = true := by kernel_rfl
theorem at4_6_0 (e0 e1 e2 : TypeId) : run (.ofNat 4) (.ofNat 6) (.ofNat 0) e0 e1 e2 = true := by kernel_rfl
theorem at4_6_1 (e0 e1 e2 : TypeId) : run (.ofNat 4) (.ofNat 6) (.ofNat 1) e0 e1 e2 = true := by kernel_rfl
theorem at4_6_2 (e0 e1 e2 : TypeId) : run (.ofNat 4) (.ofNat 6) (.ofNat 2) e0 e1 e2 = true := by kernel_rfl
theorem in4_6 (e0 e1 e2 : TypeId) : ∀ k, run (.ofNat 4) (.ofNat 6) k e0 e1 e2 = true :=
  ks (fun j => lo4_6 j e0 e1 e2) (fun j => hi4_6 j e0 e1 e2) fun
    | 0, _ => at4_6_0 e0 e1 e2
    | 1, _ => at4_6_1 e0 e1 e2
    | 2, _ => at4_6_2 e0 e1 e2
    | j + 3, h => absurd h (by omega)
theorem lo4_7 (m : Nat) (e0 e1 e2 : TypeId) : run (.ofNat 4) (.ofNat 7) (.negSucc m) e0 e1 e2 = true := by kernel_rfl
theorem hi4_7 (m : Nat) (e0 e1 e2 : TypeId) : run (.ofNat 4) (.ofNat 7) (.ofNat (m + 4)) e0 e1 e2 = true := by kernel_rfl
theorem at4_7_0 (e0 e1 e2 : TypeId) : run (.ofNat 4) (.ofNat 7) (.ofNat 0) e0 e1 e2 = true := by kernel_rfl
theorem at4_7_1 (e0 e1 e2 : TypeId) : run (.ofNat 4) (.ofNat 7) (.ofNat 1) e0 e1 e2 = true := by kernel_rfl
theorem at4_7_2 (e0 e1 e2 : TypeId) : run (.ofNat 4) (.ofNat 7) (.ofNat 2) e0 e1 e2 = true := by kernel_rfl
theorem at4_7_3 (e0 e1 e2 : TypeId) : run (.ofNat 4) (.ofNat 7) (.ofNat 3) e0 e1 e2 = true := by kernel_rfl
theorem in4_7 (e0 e1 e2 : TypeId) : ∀ k, run (.ofNat 4) (.ofNat 7) k e0 e1 e2 = true :=
  ks (fun j => lo4_7 j e0 e1 e2) (fun j => hi4_7 j e0 e1 e2) fun
    | 0, _ => at4_7_0 e0 e1 e2
    | 1, _ => at4_7_1 e0 e1 e2
    | 2, _ => at4_7_2 e0 e1 e2
    | 3, _ => at4_7_3 e0 e1 e2
    | j + 4, h => absurd h (by omega)
theorem lo4_8 (m : Nat) (e0 e1 e2 : TypeId) : run (.ofNat 4) (.ofNat 8) (.negSucc m) e0 e1 e2 = true := by kernel_rfl
theorem hi4_8 (m : Nat) (e0 e1 e2 : TypeId) : run (.ofNat 4) (.ofNat 8) (.ofNat (m + 2)) e0 e1 e2 = true := by kernel_rfl
theorem at4_8_0 (e0 e1 e2 : TypeId) : run (.ofNat 4) (.ofNat 8) (.ofNat 0) e0 e1 e2 = true := by kernel_rfl
theorem at4_8_1 (e0 e1 e2 : TypeId) : run (.ofNat 4) (.ofNat 8) (.ofNat 1) e0 e1 e2 = true := by kernel_rfl
theorem in4_8 (e0 e1 e2 : TypeId) : ∀ k, run (.ofNat 4) (.ofNat 8) k e0 e1 e2 = true :=
  ks (fun j => lo4_8 j e0 e1 e2) (fun j => hi4_8 j e0 e1 e2) fun
    | 0, _ => at4_8_0 e0 e1 e2
    | 1, _ => at4_8_1 e0 e1 e2
    | j + 2, h => absurd h (by omega)
theorem lo4_9 (m : Nat) (e0 e1 e2 : TypeId) : run (.ofNat 4) (.ofNat 9) (.negSucc m) e0 e1 e2 = true := by kernel_rfl
theorem hi4_9 (m : Nat) (e0 e1 e2 : TypeId) : run (.ofNat 4) (.ofNat 9) (.ofNat (m + 3)) e0 e1 e2 = true := by kernel_rfl
theorem at4_9_0 (e0 e1 e2 : TypeId) : run (.ofNat 4) (.ofNat 9) (.ofNat 0) e0 e1 e2 = true := by kernel_rfl
theorem at4_9_1 (e0 e1 e2 : TypeId) : run (.ofNat 4) (.ofNat 9) (.ofNat 1) e0 e1 e2 = true := by kernel_rfl
theorem at4_9_2 (e0 e1 e2 : TypeId) : run (.ofNat 4) (.ofNat 9) (.ofNat 2) e0 e1 e2 = true := by kernel_rfl
theorem in4_9 (e0 e1 e2 : TypeId) : ∀ k, run (.ofNat 4) (.ofNat 9) k e0 e1 e2 = true :=
  ks (fun j => lo4_9 j e0 e1 e2) (fun j => hi4_9 j e0 e1 e2) fun
    | 0, _ => at4_9_0 e0 e1 e2
    | 1, _ => at4_9_1 e0 e1 e2
    | 2, _ => at4_9_2 e0 e1 e2
    | j + 3, h => absurd h (by omega)
theorem lo4_10 (m : Nat) (e0 e1 e2 : TypeId) : run (.ofNat 4) (.ofNat 10) (.negSucc m) e0 e1 e2 = true := by kernel_rfl
theorem hi4_10 (m : Nat) (e0 e1 e2 : TypeId) : run (.ofNat 4) (.ofNat 10) (.ofNat (m + 3)) e0 e1 e2 = true := by kernel_rfl
theorem at4_10_0 (e0 e1 e2 : TypeId) : run (.ofNat 4) (.ofNat 10) (.ofNat 0) e0 e1 e2 = true := by kernel_rfl
theorem at4_10_1 (e0 e1 e2 : TypeId) : run (.ofNat 4) (.ofNat 10) (.ofNat 1) e0 e1 e2 = true := by kernel_rfl
theorem at4_10_2 (e0 e1 e2 : TypeId) : run (.ofNat 4) (.ofNat 10) (.ofNat 2) e0 e1 e2 = true := by kernel_rfl
theorem in4_10 (e0 e1 e2 : TypeId) : ∀ k, run (.ofNat 4) (.ofNat 10) k e0 e1 e2 = true :=
  ks (fun j => lo4_10 j e0 e1 e2) (fun j => hi4_10 j e0 e1 e2) fun
    | 0, _ => at4_10_0 e0 e1 e2
    | 1, _ => at4_10_1 e0 e1 e2
    | 2, _ => at4_10_2 e0 e1 e2
    | j + 3, h => absurd h (by omega)
theorem lo4_11 (m : Nat) (e0 e1 e2 : TypeId) : run (.ofNat 4) (.ofNat 11) (.negSucc m) e0 e1 e2 = true := by kernel_rfl
theorem hi4_11 (m : Nat) (e0 e1 e2 : TypeId) : run (.ofNat 4) (.ofNat 11) (.ofNat (m + 4)) e0 e1 e2 = true := by kernel_rfl
theorem at4_11_0 (e0 e1 e2 : TypeId) : run (.ofNat 4) (.ofNat 11) (.ofNat 0) e0 e1 e2 = true := by kernel_rfl
theorem at4_11_1 (e0 e1 e2 : TypeId) : run (.ofNat 4) (.ofNat 11) (.ofNat 1) e0 e1 e2 = true := by kernel_rfl
theorem at4_11_2 (e0 e1 e2 : TypeId) : run (.ofNat 4) (.ofNat 11) (.ofNat 2) e0 e1 e2 = true := by kernel_rfl
theorem at4_11_3 (e0 e1 e2 : TypeId) : run (.ofNat 4) (.ofNat 11) (.ofNat 3) e0 e1 e2 = true := by kernel_rfl
theorem in4_11 (e0 e1 e2 : TypeId) : ∀ k, run (.ofNat 4) (.ofNat 11) k e0 e1 e2 = true :=
  ks (fun j => lo4_11 j e0 e1 e2) (fun j => hi4_11 j e0 e1 e2) fun
    | 0, _ => at4_11_0 e0 e1 e2
    | 1, _ => at4_11_1 e0 e1 e2
    | 2, _ => at4_11_2 e0 e1 e2
    | 3, _ => at4_11_3 e0 e1 e2
    | j + 4, h => absurd h (by omega)
theorem lo4_12 (m : Nat) (e0 e1 e2 : TypeId) : run (.ofNat 4) (.ofNat 12) (.negSucc m) e0 e1 e2 = true := by kernel_rfl
theorem hi4_12 (m : Nat) (e0 e1 e2 : TypeId) : run (.ofNat 4) (.ofNat 12) (.ofNat (m + 3)) e0 e1 e2 = true := by kernel_rfl
theorem at4_12_0 (e0 e1 e2 : TypeId) : run (.ofNat 4) (.ofNat 12) (.ofNat 0) e0 e1 e2 = true := by kernel_rfl
theorem at4_12_1 (e0 e1 e2 : TypeId) : run (.ofNat 4) (.ofNat 12) (.ofNat 1) e0 e1 e2 = true := by kernel_rfl
theorem at4_12_2 (e0 e1 e2 : TypeId) : run (.ofNat 4) (.ofNat 12) (.ofNat 2) e0 e1 e2 = true := by kernel_rfl
theorem in4_12 (e0 e1 e2 : TypeId) : ∀ k, run (.ofNat 4) (.ofNat 12) k e0 e1 e2 = true :=
  ks (fun j => lo4_12 j e0 e1 e2) (fun j => hi4_12 j e0 e1 e2) fun
    | 0, _ => at4_12_0 e0 e1 e2
    | 1, _ => at4_12_1 e0 e1 e2
    | 2, _ => at4_12_2 e0 e1 e2
    | j + 3, h => absurd h (by omega)
theorem lo4_13 (m : Nat) (e0 e1 e2 : TypeId) : run (.ofNat 4) (.ofNat 13) (.negSucc m) e0 e1 e2 = true := by kernel_rfl
theorem hi4_13 (m : Nat) (e0 e1 e2 : TypeId) : run (.ofNat 4) (.ofNat 13) (.ofNat (m + 4)) e0 e1 e2 = true := by kernel_rfl
theorem at4_13_0 (e0 e1 e2 : TypeId) : run (.ofNat 4) (.ofNat 13) (.ofNat 0) e0 e1 e2 = true := by kernel_rfl
theorem at4_13_1 (e0 e1 e2 : TypeId) : run (.ofNat 4) (.ofNat 13) (.ofNat 1) e0 e1 e2 = true := by kernel_rfl
theorem at4_13_2 (e0 e1 e2 : TypeId) : run (.ofNat 4) (.ofNat 13) (.ofNat 2) e0 e1 e2 = true := by kernel_rfl
theorem at4_13_3 (e0 e1 e2 : TypeId) : run (.ofNat 4) (.ofNat 13) (.ofNat 3) e0 e1 e2 = true := by kernel_rfl
theorem in4_13 (e0 e1 e2 : TypeId) : ∀ k, run (.ofNat 4) (.ofNat 13) k e0 e1 e2 = true :=
  ks (fun j => lo4_13 j e0 e1 e2) (fun j => hi4_13 j e0 e1 e2) fun
    | 0, _ => at4_13_0 e0 e1 e2
    | 1, _ => at4_13_1 e0 e1 e2
    | 2, _ => at4_13_2 e0 e1 e2
    | 3, _ => at4_13_3 e0 e1 e2
    | j + 4, h => absurd h (by omega)
theorem lo4_14 (m : Nat) (e0 e1 e2 : TypeId) : run (.ofNat 4) (.ofNat 14) (.negSucc m) e0 e1 e2 = true := by kernel_rfl
theorem hi4_14 (m : Nat) (e0 e1 e2 : TypeId) : run (.ofNat 4) (.ofNat 14) (.ofNat (m + 4)) e0 e1 e2 = true := by kernel_rfl
theorem at4_14_0 (e0 e1 e2 : TypeId) : run (.ofNat 4) (.ofNat 14) (.ofNat 0) e0 e1 e2 = true := by kernel_rfl
theorem at4_14_1 (e0 e1 e2 : TypeId) : run (.ofNat 4) (.ofNat 14) (.ofNat 1) e0 e1 e2 = true := by kernel_rfl
theorem at4_14_2 (e0 e1 e2 : TypeId) : run (.ofNat 4) (.ofNat 14) (.ofNat 2) e0 e1 e2 = true := by kernel_rfl
theorem at4_14_3 (e0 e1 e2 : TypeId) : run (.ofNat 4) (.ofNat 14) (.ofNat 3) e0 e1 e2 = true := by kernel_rfl
theorem in4_14 (e0 e1 e2 : TypeId) : ∀ k, run (.ofNat 4) (.ofNat 14) k e0 e1 e2 = true :=
  ks (fun j => lo4_14 j e0 e1 e2) (fun j => hi4_14 j e0 e1 e2) fun
    | 0, _ => at4_14_0 e0 e1 e2
    | 1, _ => at4_14_1 e0 e1 e2
    | 2, _ => at4_14_2 e0 e1 e2
    | 3, _ => at4_14_3 e0 e1 e2
    | j + 4, h => absurd h (by omega)
theorem lo4_15 (m : Nat) (e0 e1 e2 : TypeId) : run (.ofNat 4) (.ofNat 15) (.negSucc m) e0 e1 e2 = true := by kernel_rfl
theorem hi4_15 (m : Nat) (e0 e1 e2 : TypeId) : run (.ofNat 4) (.ofNat 15) (.ofNat (m + 5)) e0 e1 e2 = true := by kernel_rfl
theorem at4_15_0 (e0 e1 e2 : TypeId) : run (.ofNat 4) (.ofNat 15) (.ofNat 0) e0 e1 e2 = true := by kernel_rfl
theorem at4_15_1 (e0 e1 e2 : TypeId) : run (.ofNat 4) (.ofNat 15) (.ofNat 1) e0 e1 e2 = true := by kernel_rfl
theorem at4_15_2 (e0 e1 e2 : TypeId) : run (.ofNat 4) (.ofNat 15) (.ofNat 2) e0 e1 e2 = true := by kernel_rfl
theorem at4_15_3 (e0 e1 e2 : TypeId) : run (.ofNat 4) (.ofNat 15) (.ofNat 3) e0 e1 e2 = true := by kernel_rfl
theorem at4_15_4 (e0 e1 e2 : TypeId) : run (.ofNat 4) (.ofNat 15) (.ofNat 4) e0 e1 e2 = true := by kernel_rfl
theorem in4_15 (e0 e1 e2 : TypeId) : ∀ k, run (.ofNat 4) (.ofNat 15) k e0 e1 e2 = true :=
  ks (fun j => lo4_15 j e0 e1 e2) (fun j => hi4_15 j e0 e1 e2) fun
    | 0, _ => at4_15_0 e0 e1 e2
    | 1, _ => at4_15_1 e0 e1 e2
    | 2, _ => at4_15_2 e0 e1 e2
    | 3, _ => at4_15_3 e0 e1 e2
    | 4, _ => at4_15_4 e0 e1 e2
    | j + 5, h => absurd h (by omega)
end Go.Proofs.YtpdlnijdcgcfbaaDoor.procsetMirrors
