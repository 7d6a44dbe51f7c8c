/-
  ProcsetChooses: every case, by the kernel.
-/
import Derived.Test.YtpdlnijdcgcfbaaDoorEvDoorChA
import Derived.Test.YtpdlnijdcgcfbaaDoorEvDoorChB
import Derived.Test.YtpdlnijdcgcfbaaDoorEvDoorChC0
import Derived.Test.YtpdlnijdcgcfbaaDoorEvDoorChC1
import Derived.Test.YtpdlnijdcgcfbaaDoorEvDoorChC2
import Derived.Test.YtpdlnijdcgcfbaaDoorEvDoorChC3
import Derived.Test.YtpdlnijdcgcfbaaDoorEvDoorChC4
import Derived.Test.YtpdlnijdcgcfbaaDoorEvDoorChC5
import Derived.Test.YtpdlnijdcgcfbaaDoorEvDoorChC6
import Derived.Test.YtpdlnijdcgcfbaaDoorEvDoorChC7
import Derived.Test.YtpdlnijdcgcfbaaDoorEvDoorChC8
import Derived.Test.YtpdlnijdcgcfbaaDoorEvDoorChC9
import Derived.Test.YtpdlnijdcgcfbaaDoorEvDoorChCA
import Derived.Test.YtpdlnijdcgcfbaaDoorEvDoorChCB
import Derived.Test.YtpdlnijdcgcfbaaDoorEvDoorChCC
import Derived.Test.YtpdlnijdcgcfbaaDoorEvDoorChCD
namespace Go.Proofs.YtpdlnijdcgcfbaaDoor.procsetChooses
open Go Go.Ev Go.RowKit
open Go.Proofs.YtpdlnijdcgcfbaaDoor.Ev
def Good (a b : Int) (e0 e1 e2 : TypeId) : Prop := (∀ k : Int, k < 6 → run a b k e0 e1 e2 = true) ∧ runB a b e0 e1 e2 = true
theorem good {a b : Int} {e0 e1 e2 : TypeId} (h : runs a b e0 e1 e2 = true) (hn : ∀ m, run a b (.negSucc m) e0 e1 e2 = true) (hb : runB a b e0 e1 e2 = true) : Good a b e0 e1 e2 := by
  refine ⟨fun k hk => ?_, hb⟩
  unfold runs at h
  rw [List.all_eq_true] at h
  cases k with
  | negSucc m => exact hn m
  | ofNat k =>
    have : k < 6 := by simp only [Int.ofNat_eq_natCast] at hk; omega
    refine h k ?_
    match k, this with
    | 0, _ => simp
    | 1, _ => simp
    | 2, _ => simp
    | 3, _ => simp
    | 4, _ => simp
    | 5, _ => simp
theorem bad {a b : Int} {e0 e1 e2 : TypeId} (h : ∀ k, run a b k e0 e1 e2 = true) (hb : runB a b e0 e1 e2 = true) : Good a b e0 e1 e2 := ⟨fun k _ => h k, hb⟩
theorem caseA (m : Nat) (b k : Int) (e0 e1 e2 : TypeId) : run (.negSucc m) b k e0 e1 e2 = true := by kernel_rfl
theorem caseAb (m : Nat) (b : Int) (e0 e1 e2 : TypeId) : runB (.negSucc m) b e0 e1 e2 = true := by kernel_rfl
theorem caseB (b k : Int) (e0 e1 e2 : TypeId) : run (.ofNat 0) b k e0 e1 e2 = true := by kernel_rfl
theorem caseBb (b : Int) (e0 e1 e2 : TypeId) : runB (.ofNat 0) b e0 e1 e2 = true := by kernel_rfl
theorem caseC (m : Nat) (b k : Int) (e0 e1 e2 : TypeId) : run (.ofNat (m + 6)) b k e0 e1 e2 = true := by kernel_rfl
theorem caseCb (m : Nat) (b : Int) (e0 e1 e2 : TypeId) : runB (.ofNat (m + 6)) b e0 e1 e2 = true := by kernel_rfl
theorem caseD1 (m : Nat) (k : Int) (e0 e1 e2 : TypeId) : run (.ofNat 1) (.negSucc m) k e0 e1 e2 = true := by kernel_rfl
theorem caseDb1 (m : Nat) (e0 e1 e2 : TypeId) : runB (.ofNat 1) (.negSucc m) e0 e1 e2 = true := by kernel_rfl
theorem caseE1 (m : Nat) (k : Int) (e0 e1 e2 : TypeId) : run (.ofNat 1) (.ofNat (m + 2)) k e0 e1 e2 = true := by kernel_rfl
theorem caseEb1 (m : Nat) (e0 e1 e2 : TypeId) : runB (.ofNat 1) (.ofNat (m + 2)) e0 e1 e2 = true := by kernel_rfl
theorem caseF1 (e0 e1 e2 : TypeId) : ∀ s, s < 2 → Good (.ofNat 1) (.ofNat s) e0 e1 e2
  | 0, _ => good (in1_0 e0 e1 e2) (fun m => ng1_0 m e0 e1 e2) (bg1_0 e0 e1 e2)
  | 1, _ => good (in1_1 e0 e1 e2) (fun m => ng1_1 m e0 e1 e2) (bg1_1 e0 e1 e2)
  | j + 2, h => absurd h (by omega)
theorem set1 (e0 e1 e2 : TypeId) : ∀ b, Good (.ofNat 1) b e0 e1 e2
  | .negSucc m => bad (fun k => caseD1 m k e0 e1 e2) (caseDb1 m e0 e1 e2)
  | .ofNat s => by
    rcases Nat.lt_or_ge s 2 with h | h
    · exact caseF1 e0 e1 e2 s h
    · obtain ⟨j, rfl⟩ : ∃ j, s = j + 2 := ⟨s - 2, by omega⟩
      exact bad (fun k => caseE1 j k e0 e1 e2) (caseEb1 j e0 e1 e2)
theorem caseD2 (m : Nat) (k : Int) (e0 e1 e2 : TypeId) : run (.ofNat 2) (.negSucc m) k e0 e1 e2 = true := by kernel_rfl
theorem caseDb2 (m : Nat) (e0 e1 e2 : TypeId) : runB (.ofNat 2) (.negSucc m) e0 e1 e2 = true := by kernel_rfl
theorem caseE2 (m : Nat) (k : Int) (e0 e1 e2 : TypeId) : run (.ofNat 2) (.ofNat (m + 4)) k e0 e1 e2 = true := by kernel_rfl
theorem caseEb2 (m : Nat) (e0 e1 e2 : TypeId) : runB (.ofNat 2) (.ofNat (m + 4)) e0 e1 e2 = true := by kernel_rfl
theorem caseF2 (e0 e1 e2 : TypeId) : ∀ s, s < 4 → Good (.ofNat 2) (.ofNat s) e0 e1 e2
  | 0, _ => good (in2_0 e0 e1 e2) (fun m => ng2_0 m e0 e1 e2) (bg2_0 e0 e1 e2)
  | 1, _ => good (in2_1 e0 e1 e2) (fun m => ng2_1 m e0 e1 e2) (bg2_1 e0 e1 e2)
  | 2, _ => good (in2_2 e0 e1 e2) (fun m => ng2_2 m e0 e1 e2) (bg2_2 e0 e1 e2)
  | 3, _ => good (in2_3 e0 e1 e2) (fun m => ng2_3 m e0 e1 e2) (bg2_3 e0 e1 e2)
  | j + 4, h => absurd h (by omega)
theorem set2 (e0 e1 e2 : TypeId) : ∀ b, Good (.ofNat 2) b e0 e1 e2
  | .negSucc m => bad (fun k => caseD2 m k e0 e1 e2) (caseDb2 m e0 e1 e2)
  | .ofNat s => by
    rcases Nat.lt_or_ge s 4 with h | h
    · exact caseF2 e0 e1 e2 s h
    · obtain ⟨j, rfl⟩ : ∃ j, s = j + 4 := ⟨s - 4, by omega⟩
      exact bad (fun k => caseE2 j k e0 e1 e2) (caseEb2 j e0 e1 e2)
theorem caseD3 (m : Nat) (k : Int) (e0 e1 e2 : TypeId) : run (.ofNat 3) (.negSucc m) k e0 e1 e2 = true := by kernel_rfl
theorem caseDb3 (m : Nat) (e0 e1 e2 : TypeId) : runB (.ofNat 3) (.negSucc m) e0 e1 e2 = true := by kernel_rfl
theorem caseE3 (m : Nat) (k : Int) (e0 e1 e2 : TypeId) : run (.ofNat 3) (.ofNat (m + 8)) k e0 e1 e2 = true := by kernel_rfl
theorem caseEb3 (m : Nat) (e0 e1 e2 : TypeId) : runB (.ofNat 3) (.ofNat (m + 8)) e0 e1 e2 = true := by kernel_rfl
theorem caseF3 (e0 e1 e2 : TypeId) : ∀ s, s < 8 → Good (.ofNat 3) (.ofNat s) e0 e1 e2
  | 0, _ => good (in3_0 e0 e1 e2) (fun m => ng3_0 m e0 e1 e2) (bg3_0 e0 e1 e2)
  | 1, _ => good (in3_1 e0 e1 e2) (fun m => ng3_1 m e0 e1 e2) (bg3_1 e0 e1 e2)
  | 2, _ => good (in3_2 e0 e1 e2) (fun m => ng3_2 m e0 e1 e2) (bg3_2 e0 e1 e2)
  | 3, _ => good (in3_3 e0 e1 e2) (fun m => ng3_3 m e0 e1 e2) (bg3_3 e0 e1 e2)
  | 4, _ => good (in3_4 e0 e1 e2) (fun m => ng3_4 m e0 e1 e2) (bg3_4 e0 e1 e2)
  | 5, _ => good (in3_5 e0 e1 e2) (fun m => ng3_5 m e0 e1 e2) (bg3_5 e0 e1 e2)
  | 6, _ => good (in3_6 e0 e1 e2) (fun m => ng3_6 m e0 e1 e2) (bg3_6 e0 e1 e2)
  | 7, _ => good (in3_7 e0 e1 e2) (fun m => ng3_7 m e0 e1 e2) (bg3_7 e0 e1 e2)
  | j + 8, h => absurd h (by omega)
theorem set3 (e0 e1 e2 : TypeId) : ∀ b, Good (.ofNat 3) b e0 e1 e2
  | .negSucc m => bad (fun k => caseD3 m k e0 e1 e2) (caseDb3 m e0 e1 e2)
  | .ofNat s => by
    rcases Nat.lt_or_ge s 8 with h | h
    · exact caseF3 e0 e1 e2 s h
    · obtain ⟨j, rfl⟩ : ∃ j, s = j + 8 := ⟨s - 8, by omega⟩
      exact bad (fun k => caseE3 j k e0 e1 e2) (caseEb3 j e0 e1 e2)
theorem caseD4 (m : Nat) (k : Int) (e0 e1 e2 : TypeId) : run (.ofNat 4) (.negSucc m) k e0 e1 e2 = true := by kernel_rfl
theorem caseDb4 (m : Nat) (e0 e1 e2 : TypeId) : runB (.ofNat 4) (.negSucc m) e0 e1 e2 = true := by kernel_rfl
theorem caseE4 (m : Nat) (k : Int) (e0 e1 e2 : TypeId) : run (.ofNat 4) (.ofNat (m + 16)) k e0 e1 e2 = true := by kernel_rfl
theorem caseEb4 (m : Nat) (e0 e1 e2 : TypeId) : runB (.ofNat 4) (.ofNat (m + 16)) e0 e1 e2 = true := by kernel_rfl
theorem caseF4 (e0 e1 e2 : TypeId) : ∀ s, s < 16 → Good (.ofNat 4) (.ofNat s) e0 e1 e2
  | 0, _ => good (in4_0 e0 e1 e2) (fun m => ng4_0 m e0 e1 e2) (bg4_0 e0 e1 e2)
  | 1, _ => good (in4_1 e0 e1 e2) (fun m => ng4_1 m e0 e1 e2) (bg4_1 e0 e1 e2)
  | 2, _ => good (in4_2 e0 e1 e2) (fun m => ng4_2 m e0 e1 e2) (bg4_2 e0 e1 e2)
  | 3, _ => good (in4_3 e0 e1 e2) (fun m => ng4_3 m e0 e1 e2) (bg4_3 e0 e1 e2)
  | 4, _ => good (in4_4 e0 e1 e2) (fun m => ng4_4 m e0 e1 e2) (bg4_4 e0 e1 e2)
  | 5, _ => good (in4_5 e0 e1 e2) (fun m => ng4_5 m e0 e1 e2) (bg4_5 e0 e1 e2)
  | 6, _ => good (in4_6 e0 e1 e2) (fun m => ng4_6 m e0 e1 e2) (bg4_6 e0 e1 e2)
  | 7, _ => good (in4_7 e0 e1 e2) (fun m => ng4_7 m e0 e1 e2) (bg4_7 e0 e1 e2)
  | 8, _ => good (in4_8 e0 e1 e2) (fun m => ng4_8 m e0 e1 e2) (bg4_8 e0 e1 e2)
  | 9, _ => good (in4_9 e0 e1 e2) (fun m => ng4_9 m e0 e1 e2) (bg4_9 e0 e1 e2)
  | 10, _ => good (in4_10 e0 e1 e2) (fun m => ng4_10 m e0 e1 e2) (bg4_10 e0 e1 e2)
  | 11, _ => good (in4_11 e0 e1 e2) (fun m => ng4_11 m e0 e1 e2) (bg4_11 e0 e1 e2)
  | 12, _ => good (in4_12 e0 e1 e2) (fun m => ng4_12 m e0 e1 e2) (bg4_12 e0 e1 e2)
  | 13, _ => good (in4_13 e0 e1 e2) (fun m => ng4_13 m e0 e1 e2) (bg4_13 e0 e1 e2)
  | 14, _ => good (in4_14 e0 e1 e2) (fun m => ng4_14 m e0 e1 e2) (bg4_14 e0 e1 e2)
  | 15, _ => good (in4_15 e0 e1 e2) (fun m => ng4_15 m e0 e1 e2) (bg4_15 e0 e1 e2)
  | j + 16, h => absurd h (by omega)
theorem set4 (e0 e1 e2 : TypeId) : ∀ b, Good (.ofNat 4) b e0 e1 e2
  | .negSucc m => bad (fun k => caseD4 m k e0 e1 e2) (caseDb4 m e0 e1 e2)
  | .ofNat s => by
    rcases Nat.lt_or_ge s 16 with h | h
    · exact caseF4 e0 e1 e2 s h
    · obtain ⟨j, rfl⟩ : ∃ j, s = j + 16 := ⟨s - 16, by omega⟩
      exact bad (fun k => caseE4 j k e0 e1 e2) (caseEb4 j e0 e1 e2)
theorem caseD5 (m : Nat) (k : Int) (e0 e1 e2 : TypeId) : run (.ofNat 5) (.negSucc m) k e0 e1 e2 = true := by kernel_rfl
theorem caseDb5 (m : Nat) (e0 e1 e2 : TypeId) : runB (.ofNat 5) (.negSucc m) e0 e1 e2 = true := by kernel_rfl
theorem caseE5 (m : Nat) (k : Int) (e0 e1 e2 : TypeId) : run (.ofNat 5) (.ofNat (m + 32)) k e0 e1 e2 = true := by kernel_rfl
theorem caseEb5 (m : Nat) (e0 e1 e2 : TypeId) : runB (.ofNat 5) (.ofNat (m + 32)) e0 e1 e2 = true := by kernel_rfl
theorem caseF5 (e0 e1 e2 : TypeId) : ∀ s, s < 32 → Good (.ofNat 5) (.ofNat s) e0 e1 e2
  | 0, _ => good (in5_0 e0 e1 e2) (fun m => ng5_0 m e0 e1 e2) (bg5_0 e0 e1 e2)
  | 1, _ => good (in5_1 e0 e1 e2) (fun m => ng5_1 m e0 e1 e2) (bg5_1 e0 e1 e2)
  | 2, _ => good (in5_2 e0 e1 e2) (fun m => ng5_2 m e0 e1 e2) (bg5_2 e0 e1 e2)
  | 3, _ => good (in5_3 e0 e1 e2) (fun m => ng5_3 m e0 e1 e2) (bg5_3 e0 e1 e2)
  | 4, _ => good (in5_4 e0 e1 e2) (fun m => ng5_4 m e0 e1 e2) (bg5_4 e0 e1 e2)
  | 5, _ => good (in5_5 e0 e1 e2) (fun m => ng5_5 m e0 e1 e2) (bg5_5 e0 e1 e2)
  | 6, _ => good (in5_6 e0 e1 e2) (fun m => ng5_6 m e0 e1 e2) (bg5_6 e0 e1 e2)
  | 7, _ => good (in5_7 e0 e1 e2) (fun m => ng5_7 m e0 e1 e2) (bg5_7 e0 e1 e2)
  | 8, _ => good (in5_8 e0 e1 e2) (fun m => ng5_8 m e0 e1 e2) (bg5_8 e0 e1 e2)
  | 9, _ => good (in5_9 e0 e1 e2) (fun m => ng5_9 m e0 e1 e2) (bg5_9 e0 e1 e2)
  | 10, _ => good (in5_10 e0 e1 e2) (fun m => ng5_10 m e0 e1 e2) (bg5_10 e0 e1 e2)
  | 11, _ => good (in5_11 e0 e1 e2) (fun m => ng5_11 m e0 e1 e2) (bg5_11 e0 e1 e2)
  | 12, _ => good (in5_12 e0 e1 e2) (fun m => ng5_12 m e0 e1 e2) (bg5_12 e0 e1 e2)
  | 13, _ => good (in5_13 e0 e1 e2) (fun m => ng5_13 m e0 e1 e2) (bg5_13 e0 e1 e2)
  | 14, _ => good (in5_14 e0 e1 e2) (fun m => ng5_14 m e0 e1 e2) (bg5_14 e0 e1 e2)
  | 15, _ => good (in5_15 e0 e1 e2) (fun m => ng5_15 m e0 e1 e2) (bg5_15 e0 e1 e2)
  | 16, _ => good (in5_16 e0 e1 e2) (fun m => ng5_16 m e0 e1 e2) (bg5_16 e0 e1 e2)
  | 17, _ => good (in5_17 e0 e1 e2) (fun m => ng5_17 m e0 e1 e2) (bg5_17 e0 e1 e2)
  | 18, _ => good (in5_18 e0 e1 e2) (fun m => ng5_18 m e0 e1 e2) (bg5_18 e0 e1 e2)
  | 19, _ => good (in5_19 e0 e1 e2) (fun m => ng5_19 m e0 e1 e2) (bg5_19 e0 e1 e2)
  | 20, _ => good (in5_20 e0 e1 e2) (fun m => ng5_20 m e0 e1 e2) (bg5_20 e0 e1 e2)
  | 21, _ => good (in5_21 e0 e1 e2) (fun m => ng5_21 m e0 e1 e2) (bg5_21 e0 e1 e2)
  | 22, _ => good (in5_22 e0 e1 e2) (fun m => ng5_22 m e0 e1 e2) (bg5_22 e0 e1 e2)
  | 23, _ => good (runs_of (ia5_23 e0 e1 e2) (ib5_23 e0 e1 e2)) (fun m => ng5_23 m e0 e1 e2) (bg5_23 e0 e1 e2)
  | 24, _ => good (in5_24 e0 e1 e2) (fun m => ng5_24 m e0 e1 e2) (bg5_24 e0 e1 e2)
  | 25, _ => good (in5_25 e0 e1 e2) (fun m => ng5_25 m e0 e1 e2) (bg5_25 e0 e1 e2)
  | 26, _ => good (in5_26 e0 e1 e2) (fun m => ng5_26 m e0 e1 e2) (bg5_26 e0 e1 e2)
  | 27, _ => good (in5_27 e0 e1 e2) (fun m => ng5_27 m e0 e1 e2) (bg5_27 e0 e1 e2)
  | 28, _ => good (in5_28 e0 e1 e2) (fun m => ng5_28 m e0 e1 e2) (bg5_28 e0 e1 e2)
  | 29, _ => good (in5_29 e0 e1 e2) (fun m => ng5_29 m e0 e1 e2) (bg5_29 e0 e1 e2)
  | 30, _ => good (in5_30 e0 e1 e2) (fun m => ng5_30 m e0 e1 e2) (bg5_30 e0 e1 e2)
  | 31, _ => good (runs_of (ia5_31 e0 e1 e2) (ib5_31 e0 e1 e2)) (fun m => ng5_31 m e0 e1 e2) (bg5_31 e0 e1 e2)
  | j + 32, h => absurd h (by omega)
theorem set5 (e0 e1 e2 : TypeId) : ∀ b, Good (.ofNat 5) b e0 e1 e2
  | .negSucc m => bad (fun k => caseD5 m k e0 e1 e2) (caseDb5 m e0 e1 e2)
  | .ofNat s => by
    rcases Nat.lt_or_ge s 32 with h | h
    · exact caseF5 e0 e1 e2 s h
    · obtain ⟨j, rfl⟩ : ∃ j, s = j + 32 := ⟨s - 32, by omega⟩
      exact bad (fun k => caseE5 j k e0 e1 e2) (caseEb5 j e0 e1 e2)
theorem all (e0 e1 e2 : TypeId) : ∀ a b, Good a b e0 e1 e2
  | .negSucc m, b => bad (fun k => caseA m b k e0 e1 e2) (caseAb m b e0 e1 e2)
  | .ofNat 0, b => bad (fun k => caseB b k e0 e1 e2) (caseBb b e0 e1 e2)
  | .ofNat 1, b => set1 e0 e1 e2 b
  | .ofNat 2, b => set2 e0 e1 e2 b
  | .ofNat 3, b => set3 e0 e1 e2 b
  | .ofNat 4, b => set4 e0 e1 e2 b
  | .ofNat 5, b => set5 e0 e1 e2 b
  | .ofNat (m + 6), b => bad (fun k => caseC m b k e0 e1 e2) (caseCb m b e0 e1 e2)
theorem walk {W : World} {e0 e1 e2 : TypeId} (H : Held W (tabs e0 e1 e2)) (a b k : Int) : Calls Tryd.prog 5 #[.int .i64 a, .int .i64 b, .int .i64 k] W fun e w' => e = .returned (.bool true) ∧ Below W.heap.size W w' := by
  rcases Int.lt_or_le k 6 with h | h
  · exact lawF (f := 5) (args := [.int .i64 a, .int .i64 b, .int .i64 k]) (fun c => .cons (.int _ _) (.cons (.int _ _) (.cons (.int _ _) .nil))) (fun e0 e1 e2 => by have h2 := (all e0 e1 e2 a b).1 k h; unfold run runV at h2; exact h2) H
  · exact lawF (f := 5) (args := [.int .i64 a, .int .i64 b, .big 6]) (fun c => .cons (.int _ _) (.cons (.int _ _) (.cons (.big k h) .nil))) (fun e0 e1 e2 => by have h2 := (all e0 e1 e2 a b).2; unfold runB runV at h2; exact h2) H
#print axioms walk
end Go.Proofs.YtpdlnijdcgcfbaaDoor.procsetChooses
