/-
  Rounds: their check and their order, the program's and the reference's.
-/
import Derived.Test.YtlineonmpbdkgaaDoorEvRoCmp
import Derived.Test.YtlineonmpbdkgaaDoorEvRoMath
namespace Go.Proofs.YtlineonmpbdkgaaDoor.Graph
open Go Go.RowKit Go.Graph Go.Law
open Go.Proofs.YtlineonmpbdkgaaDoor.Col

theorem bel_le {B : Nat} {w w' : World} (h : Below w.heap.size w w') (hB : B ≤ w.heap.size) : Below B w w' := h.mono hB
theorem procs_ok (n : Nat) (h1 : 1 ≤ n) (h5 : n ≤ 5) (w : World) : Calls Tryd.prog 54 #[.int .i64 n] w fun e w' => e = .returned (.int .i64 0) ∧ w = w' := by
  have h1' : ¬ (n : Int) < 1 := by omega
  have h5' : ¬ (n : Int) > 5 := by omega
  go_enter Tryd.func54, Tryd.ntmps54
  go_wp2
  go_ret
  exact ⟨rfl, rfl⟩
theorem rpcheck_ok (n : Nat) (h1 : 1 ≤ n) (h5 : n ≤ 5) (x : Nat) (hx : x < 2 ^ n) (w : World) : Calls Tryd.prog 37 #[.int .i64 n, .int .i64 x] w fun e w' => e = .returned (.int .i64 0) ∧ w = w' := by
  have hx1 : ¬ (x : Int) ≥ ((2 ^ n : Nat) : Int) := by omega
  have hx0 : ¬ (x : Int) < 0 := by omega
  have HP := Lib.hid (power_any n h5)
  generalize 2 ^ n = P at *
  go_enter Tryd.func37, Tryd.ntmps37
  go_wp2_with (first | (go_at_call 54; refine (procs_ok n h1 h5 _).mono ?_; rintro e w' ⟨rfl, rfl⟩) | (go_at_call 63; refine (HP.out _).mono ?_; rintro e w' ⟨rfl, rfl⟩))
  go_ret
  exact ⟨rfl, rfl⟩
theorem rpcheck_bad (n : Nat) (h1 : 1 ≤ n) (h5 : n ≤ 5) (x : Int) (hx : x < 0 ∨ ((2 ^ n : Nat) : Int) ≤ x) (w : World) : Calls Tryd.prog 37 #[.int .i64 n, .int .i64 x] w fun e w' => e = .returned (.int .i64 2) ∧ w = w' := by
  have HP := Lib.hid (power_any n h5)
  rcases hx with hx | hx
  · generalize 2 ^ n = P at *
    go_enter Tryd.func37, Tryd.ntmps37
    go_wp2_with (first | (go_at_call 54; refine (procs_ok n h1 h5 _).mono ?_; rintro e w' ⟨rfl, rfl⟩) | (go_at_call 63; refine (HP.out _).mono ?_; rintro e w' ⟨rfl, rfl⟩))
    go_ret
    exact ⟨rfl, rfl⟩
  · generalize 2 ^ n = P at *
    have hx1 : x ≥ (P : Int) := hx
    have hx0 : ¬ x < 0 := by omega
    clear hx
    go_enter Tryd.func37, Tryd.ntmps37
    go_wp2_with (first | (go_at_call 54; refine (procs_ok n h1 h5 _).mono ?_; rintro e w' ⟨rfl, rfl⟩) | (go_at_call 63; refine (HP.out _).mono ?_; rintro e w' ⟨rfl, rfl⟩))
    go_ret
    exact ⟨rfl, rfl⟩

theorem seven (w : World) (n r0 r1 r2 r3 r4 f : Int) : ∀ w1 : World, Below (w.alloc (.cells #[.int .i64 n, .int .i64 r0, .int .i64 r1, .int .i64 r2, .int .i64 r3, .int .i64 r4, .int .i64 f] 26)).heap.size (w.alloc (.cells #[.int .i64 n, .int .i64 r0, .int .i64 r1, .int .i64 r2, .int .i64 r3, .int .i64 r4, .int .i64 f] 26)) w1 →
    Below w.heap.size w w1 ∧ w1.cell? ⟨w.heap.size, 0, none⟩ = some (.int .i64 n) ∧ w1.cell? ⟨w.heap.size, 6, none⟩ = some (.int .i64 f) := by
  intro w1 hb
  refine ⟨(below_alloc w _).trans (bel_le hb (below_alloc w _).size), ?_, ?_⟩
  · rw [hb.cell (by rw [size_alloc]; exact Nat.lt_succ_self _), World.cell?_alloc_at _ _ _ _ rfl]; rfl
  · rw [hb.cell (by rw [size_alloc]; exact Nat.lt_succ_self _), World.cell?_alloc_at _ _ _ _ rfl]; rfl
/-- The error of a round. -/
def rcheck (n : Int) (r : List Int) (f : Int) : Int := if check n r ≠ 0 then check n r else if f < 0 ∨ ((2 ^ n.toNat : Nat) : Int) ≤ f then 2 else 0
theorem check_size {n : Int} {r : List Int} (h : check n r = 0) : 1 ≤ n ∧ n ≤ 5 := by
  unfold check at h
  split at h
  · omega
  · omega
theorem round_check (n r0 r1 r2 r3 r4 f : Int) (w : World) :
    Calls Tryd.prog 9 #[.agg #[.int .i64 n, .int .i64 r0, .int .i64 r1, .int .i64 r2, .int .i64 r3, .int .i64 r4, .int .i64 f]] w fun e w' => e = .returned (.int .i64 (rcheck n [r0, r1, r2, r3, r4] f)) ∧ Below w.heap.size w w' := by
  have HG := Lib.hid (gcheck n r0 r1 r2 r3 r4)
  have H7 := Lib.hid (seven w n r0 r1 r2 r3 r4 f)
  unfold rcheck
  by_cases hc : check n [r0, r1, r2, r3, r4] = 0
  · rw [if_neg (by omega)]
    obtain ⟨h1, h5⟩ := check_size hc
    obtain ⟨k, rfl⟩ := Int.eq_ofNat_of_zero_le (show 0 ≤ n by omega)
    rw [hc] at HG
    clear hc
    rw [Int.toNat_natCast]
    by_cases hf : f < 0 ∨ ((2 ^ k : Nat) : Int) ≤ f
    · rw [if_pos hf]
      have HF := Lib.hid (pcheck_bad k (by omega) (by omega) f hf)
      clear hf
      go_enter Tryd.func9, Tryd.ntmps9
      go_wp2_with (first | (go_at_call 34; refine (HG.out _).mono ?_; rintro e w1 ⟨rfl, hb⟩; obtain ⟨hB, c0, c6⟩ := H7.out _ hb; have HB := Lib.hid hB; clear hb hB) | (go_at_call 35; refine (HF.out _).mono ?_; rintro e w' ⟨rfl, rfl⟩))
      go_ret
      exact ⟨rfl, HB.out⟩
    · rw [if_neg hf]
      obtain ⟨q, rfl⟩ := Int.eq_ofNat_of_zero_le (show 0 ≤ f by omega)
      have HF := Lib.hid (pcheck_ok k (by omega) (by omega) q (by omega))
      clear hf
      go_enter Tryd.func9, Tryd.ntmps9
      go_wp2_with (first | (go_at_call 34; refine (HG.out _).mono ?_; rintro e w1 ⟨rfl, hb⟩; obtain ⟨hB, c0, c6⟩ := H7.out _ hb; have HB := Lib.hid hB; clear hb hB) | (go_at_call 35; refine (HF.out _).mono ?_; rintro e w' ⟨rfl, rfl⟩))
      go_ret
      exact ⟨rfl, HB.out⟩
  · rw [if_pos hc]
    generalize check n [r0, r1, r2, r3, r4] = c at *
    have hb : (c != 0) = true := by simpa using hc
    clear hc
    go_enter Tryd.func9, Tryd.ntmps9
    go_wp2_with (go_at_call 34; refine (HG.out _).mono ?_; rintro e w1 ⟨rfl, hb1⟩; obtain ⟨hB, c0, c6⟩ := H7.out _ hb1; have HB := Lib.hid hB; clear hb1 hB)
    go_ret
    exact ⟨rfl, HB.out⟩
theorem rround_check (n r0 r1 r2 r3 r4 f : Int) (w : World) :
    Calls Tryd.prog 10 #[.agg #[.int .i64 n, .int .i64 r0, .int .i64 r1, .int .i64 r2, .int .i64 r3, .int .i64 r4, .int .i64 f]] w fun e w' => e = .returned (.int .i64 (rcheck n [r0, r1, r2, r3, r4] f)) ∧ Below w.heap.size w w' := by
  have HG := Lib.hid (grcheck n r0 r1 r2 r3 r4)
  have H7 := Lib.hid (seven w n r0 r1 r2 r3 r4 f)
  unfold rcheck
  by_cases hc : check n [r0, r1, r2, r3, r4] = 0
  · rw [if_neg (by omega)]
    obtain ⟨h1, h5⟩ := check_size hc
    obtain ⟨k, rfl⟩ := Int.eq_ofNat_of_zero_le (show 0 ≤ n by omega)
    rw [hc] at HG
    clear hc
    rw [Int.toNat_natCast]
    by_cases hf : f < 0 ∨ ((2 ^ k : Nat) : Int) ≤ f
    · rw [if_pos hf]
      have HF := Lib.hid (rpcheck_bad k (by omega) (by omega) f hf)
      clear hf
      go_enter Tryd.func10, Tryd.ntmps10
      go_wp2_with (first | (go_at_call 36; refine (HG.out _).mono ?_; rintro e w1 ⟨rfl, hb⟩; obtain ⟨hB, c0, c6⟩ := H7.out _ hb; have HB := Lib.hid hB; clear hb hB) | (go_at_call 37; refine (HF.out _).mono ?_; rintro e w' ⟨rfl, rfl⟩))
      go_ret
      exact ⟨rfl, HB.out⟩
    · rw [if_neg hf]
      obtain ⟨q, rfl⟩ := Int.eq_ofNat_of_zero_le (show 0 ≤ f by omega)
      have HF := Lib.hid (rpcheck_ok k (by omega) (by omega) q (by omega))
      clear hf
      go_enter Tryd.func10, Tryd.ntmps10
      go_wp2_with (first | (go_at_call 36; refine (HG.out _).mono ?_; rintro e w1 ⟨rfl, hb⟩; obtain ⟨hB, c0, c6⟩ := H7.out _ hb; have HB := Lib.hid hB; clear hb hB) | (go_at_call 37; refine (HF.out _).mono ?_; rintro e w' ⟨rfl, rfl⟩))
      go_ret
      exact ⟨rfl, HB.out⟩
  · rw [if_pos hc]
    generalize check n [r0, r1, r2, r3, r4] = c at *
    have hb : (c != 0) = true := by simpa using hc
    clear hc
    go_enter Tryd.func10, Tryd.ntmps10
    go_wp2_with (go_at_call 36; refine (HG.out _).mono ?_; rintro e w1 ⟨rfl, hb1⟩; obtain ⟨hB, c0, c6⟩ := H7.out _ hb1; have HB := Lib.hid hB; clear hb1 hB)
    go_ret
    exact ⟨rfl, HB.out⟩
end Go.Proofs.YtlineonmpbdkgaaDoor.Graph
