/-
  What is faulty at the end of a word: the program's and the reference's.
-/
import Derived.Test.YtlineonmpbdkgaaDoorEvRoWordOk
namespace Go.Proofs.YtlineonmpbdkgaaDoor.Word
open Go Go.RowKit Go.Graph Go.Law
open Go.Proofs.YtlineonmpbdkgaaDoor.Graph
open Go.Proofs.YtlineonmpbdkgaaDoor.Col (has_any ret_int ret_bool)

theorem word_any (n : Int) {W : World} {v : Value} {l : List Rd} (h : WordAt W v l) : Calls Tryd.prog 23 #[.int .i64 n, v] W fun e w' => e = .returned (.int .i64 (wordR n l)) ∧ Below W.heap.size W w' := by
  unfold wordR
  by_cases hn : n < 1 ∨ 5 < n
  · rw [if_pos hn]; exact word_bad n hn v W
  · rw [if_neg hn]
    obtain ⟨k, rfl⟩ := Int.eq_ofNat_of_zero_le (show 0 ≤ n by omega)
    obtain ⟨a, cap, b, off, rfl, h1, h2, h3, h4⟩ := h
    by_cases hl : 1024 < l.length
    · rw [if_pos hl]; exact word_long k (by omega) (by omega) a l.length cap hl h4 W
    · rw [if_neg hl]; exact word_scan k (by omega) (by omega) b off l.length cap a h1 l (by omega) W h3 h2
theorem err_zero {n : Int} {x : Int × Rd} (h : err n x = 0) : rcheck x.2.n [x.2.r0, x.2.r1, x.2.r2, x.2.r3, x.2.r4] x.2.f = 0 ∧ x.2.n = n := by
  unfold err at h
  split at h
  · exact absurd h (by assumption)
  · split at h
    · exact absurd h (by decide)
    · rename_i h1 h2
      exact ⟨by simpa using h1, by simpa using h2⟩
theorem scan_zero {n : Int} {zs : List Rd} {k : Nat} (h : scanP n (seqTo zs (k + 1)) = 0) : scanP n (seqTo zs k) = 0 ∧ err n (before zs k, rd zs k) = 0 := by
  rw [seqTo_succ, scanP_succ] at h
  split at h
  · exact absurd h (by assumption)
  · rename_i h1
    exact ⟨by simpa using h1, h⟩
theorem rcheck_f {m : Int} {r : List Int} {g : Int} (h : rcheck m r g = 0) : ∃ q : Nat, g = q ∧ q < 32 := by
  unfold rcheck at h
  split at h
  · exact absurd h (by assumption)
  · rename_i h1
    obtain ⟨e1, e5⟩ := check_size (show check m r = 0 by simpa using h1)
    split at h
    · exact absurd h (by decide)
    · rename_i h2
      have hp : 2 ^ m.toNat ≤ 32 := Nat.le_trans (Nat.pow_le_pow_right (by omega) (show m.toNat ≤ 5 by omega)) (by decide)
      generalize 2 ^ m.toNat = q at hp h2
      exact ⟨g.toNat, by omega, by omega⟩
def insideTo (a b k : Nat) : Bool := (List.range k).all fun p => !(a / 2 ^ p % 2 == 1) || (b / 2 ^ p % 2 == 1)
theorem insideTo_succ (a b k : Nat) : insideTo a b (k + 1) = (insideTo a b k && (!(a / 2 ^ k % 2 == 1) || (b / 2 ^ k % 2 == 1))) := by simp [insideTo, List.range_succ]
theorem inside_le {a b k m : Nat} (hk : k ≤ m) (h : insideTo a b k = false) : insideTo a b m = false := by
  induction m with
  | zero => obtain rfl : k = 0 := by omega
            exact h
  | succ m ih =>
    by_cases e : k = m + 1
    · rw [← e]; exact h
    · rw [insideTo_succ, ih (by omega)]; rfl
theorem andNot_inside : ∀ a : Nat, a < 32 → ∀ b : Nat, b < 32 → (bits .andNot .i64 (a : Int) (b : Int) != 0) = !insideTo a b 5 := by decide +kernel
set_option maxHeartbeats 1000000 in
theorem inside_any (a b : Nat) (ha : a < 32) (hb : b < 32) (w : World) : Calls Tryd.prog 55 #[.int .i64 a, .int .i64 b] w fun e w' => e = .returned (.bool (insideTo a b 5)) ∧ w = w' := by
  go_enter Tryd.func55, Tryd.ntmps55
  go_wp2
  go_loop [5] (fun i => ∃ k : Nat, k ≤ 5 ∧ i = .int .i64 k ∧ insideTo a b k = true) (fun i => 5 - (intOf i).toNat)
  case atStart => exact ⟨0, by omega, rfl, rfl⟩
  case round =>
    obtain ⟨k, hk, rfl, hin⟩ := hrel
    have HIN := Lib.hid hin
    clear hin
    by_cases hlt : k < 5
    · have HS := Lib.hid (insideTo_succ a b k)
      rw [HIN.out] at HS
      cases h1 : (a / 2 ^ k % 2 == 1) with
      | false =>
        rw [h1] at HS
        have H1 := Lib.hid h1
        clear h1
        go_wp2_with (go_at_call 62; refine (has_any _ _ (by first | exact ha | exact hb) hlt _).mono ?_; rintro e w' ⟨rfl, rfl⟩; rw [H1.out])
        go_round
        case rel => exact ⟨k + 1, by omega, by go_num, HS.out⟩
        case measure => simp [intOf]; omega
      | true =>
        rw [h1] at HS
        have H1 := Lib.hid h1
        clear h1
        cases h2 : (b / 2 ^ k % 2 == 1) with
        | false =>
          rw [h2] at HS
          have H2 := Lib.hid h2
          clear h2
          have HF := Lib.hid (inside_le (show k + 1 ≤ 5 by omega) HS.out)
          go_wp2_with (go_at_call 62; refine (has_any _ _ (by first | exact ha | exact hb) hlt _).mono ?_; rintro e w' ⟨rfl, rfl⟩; first | rw [H1.out] | rw [H2.out])
          go_ret
          exact ⟨ret_bool HF.out.symm, rfl⟩
        | true =>
          rw [h2] at HS
          have H2 := Lib.hid h2
          clear h2
          go_wp2_with (go_at_call 62; refine (has_any _ _ (by first | exact ha | exact hb) hlt _).mono ?_; rintro e w' ⟨rfl, rfl⟩; first | rw [H1.out] | rw [H2.out])
          go_round
          case rel => exact ⟨k + 1, by omega, by go_num, HS.out⟩
          case measure => simp [intOf]; omega
    · obtain rfl : k = 5 := by omega
      go_wp2
      go_ret
      exact ⟨ret_bool HIN.out.symm, rfl⟩
end Go.Proofs.YtlineonmpbdkgaaDoor.Word
namespace Go.Proofs.YtlineonmpbdkgaaDoor.Word
open Go Go.RowKit Go.Graph Go.Law
open Go.Proofs.YtlineonmpbdkgaaDoor.Graph
open Go.Proofs.YtlineonmpbdkgaaDoor.Col (ret_int)

theorem ret_two {k k' : IntKind} {a a' b : Int} (h : a = a') : Ending.returned (.tuple #[.int k a, .int k' b]) = .returned (.tuple #[.int k a', .int k' b]) := by rw [h]
def faultyR (n : Int) (l : List Rd) : Int × Int := if wordR n l ≠ 0 then (0, wordR n l) else (before l l.length, 0)
set_option maxRecDepth 100000 in
theorem last_any {W : World} {v : Value} {l : List Rd} (h : WordAt W v l) : Calls Tryd.prog 48 #[v] W fun e w' => e = .returned (.int .i64 (before l l.length)) ∧ W = w' := by
  obtain ⟨a, cap, b, off, rfl, h1, h2, h3, h4⟩ := h
  have hmx : maxLen = 9223372036854775807 := rfl
  by_cases hl : l.length = 0
  · have HZ : Hid (before l l.length = 0) := Lib.hid (by rw [hl]; rfl)
    clear h1 h2 h3
    generalize l.length = len at *
    subst hl
    go_enter Tryd.func48, Tryd.ntmps48
    go_wp2
    go_ret
    exact ⟨ret_int HZ.out.symm, rfl⟩
  · obtain ⟨q, hq⟩ : ∃ q, l.length = q + 1 := ⟨l.length - 1, by omega⟩
    have hF : W.cell? ⟨b, off + q * 7 + 6, none⟩ = some (.int .i64 (before l l.length)) := by rw [hq]; exact h3 q (by omega) 6 (by omega)
    obtain rfl := h1 (by omega)
    clear h1 h2 h3
    generalize before l l.length = g at *
    generalize l.length = len at *
    have hw1 : IntKind.i64.wrap ((len : Int) - 1) = (q : Int) := by rw [show ((len : Int) - 1) = (q : Int) by omega, IntKind.wrap_i64]; omega
    have hw2 : wrap64 ((len : Int) - 1) = (q : Int) := by unfold wrap64; omega
    have hz : ((len : Int) == 0) = false := by simpa using hl
    go_enter Tryd.func48, Tryd.ntmps48
    go_wp2
    go_ret
    exact ⟨rfl, rfl⟩
set_option maxRecDepth 100000 in
set_option maxHeartbeats 1000000 in
theorem faulty_any (n : Int) {W : World} {v : Value} {l : List Rd} (h : WordAt W v l) (hword : Calls Tryd.prog 23 #[.int .i64 n, v] W fun e w' => e = .returned (.int .i64 (wordR n l)) ∧ Below W.heap.size W w') :
    Calls Tryd.prog 17 #[.int .i64 n, v] W fun e w' => e = .returned (.tuple #[.int .i64 (faultyR n l).1, .int .i64 (faultyR n l).2]) ∧ Below W.heap.size W w' := by
  have HW := Lib.hid hword
  clear hword
  unfold faultyR
  by_cases hc : wordR n l = 0
  · rw [if_neg (by simpa using hc)]
    rw [hc] at HW
    clear hc
    simp only
    obtain ⟨a, cap, b, off, rfl, h1, h2, h3, h4⟩ := h
    have hmx : maxLen = 9223372036854775807 := rfl
    by_cases hl : l.length = 0
    · have HZ : Hid (before l l.length = 0) := Lib.hid (by rw [hl]; rfl)
      clear h1 h2 h3
      generalize l.length = len at *
      subst hl
      go_enter Tryd.func17, Tryd.ntmps17
      go_wp2_with (go_at_call 23; refine (HW.out).mono ?_; rintro e w1 ⟨rfl, hb1⟩; have HB := Lib.hid hb1; clear hb1)
      go_ret2
      exact ⟨ret_two HZ.out.symm, HB.out⟩
    · obtain ⟨q, hq⟩ : ∃ q, l.length = q + 1 := ⟨l.length - 1, by omega⟩
      have hbb := h2 (by omega)
      have HF : Hid (∀ w1, Below W.heap.size W w1 → w1.cell? ⟨b, off + q * 7 + 6, none⟩ = some (.int .i64 (before l l.length))) := Lib.hid fun w1 hb => by rw [(hb.cell (p := ⟨b, off + q * 7 + 6, none⟩) hbb), hq]; exact h3 q (by omega) 6 (by omega)
      obtain rfl := h1 (by omega)
      clear h1 h2 h3 hbb
      generalize before l l.length = g at *
      generalize l.length = len at *
      have hw1 : IntKind.i64.wrap ((len : Int) - 1) = (q : Int) := by rw [show ((len : Int) - 1) = (q : Int) by omega, IntKind.wrap_i64]; omega
      have hw2 : wrap64 ((len : Int) - 1) = (q : Int) := by unfold wrap64; omega
      have hz : ((len : Int) == 0) = false := by simpa using hl
      have hqlt : (q : Int) < (len : Int) := by omega
      have hq0 : ¬ (q : Int) < 0 := by omega
      have hqn : q < len := by omega
      clear hq
      go_enter Tryd.func17, Tryd.ntmps17
      go_wp2_with (go_at_call 23; refine (HW.out).mono ?_; rintro e w1 ⟨rfl, hb1⟩; have HB := Lib.hid hb1; have d6 := HF.out _ hb1; clear hb1)
      go_ret2
      exact ⟨rfl, HB.out⟩
  · rw [if_pos hc]
    clear h
    generalize wordR n l = c at *
    have hcb : (c != 0) = true := by simpa using hc
    clear hc
    go_enter Tryd.func17, Tryd.ntmps17
    go_wp2_with (go_at_call 23; refine (HW.out).mono ?_; rintro e w1 ⟨rfl, hb1⟩; have HB := Lib.hid hb1; clear hb1)
    go_ret2
    exact ⟨rfl, HB.out⟩
set_option maxRecDepth 100000 in
set_option maxHeartbeats 1000000 in
theorem rfaulty_any (n : Int) {W : World} {v : Value} {l : List Rd} (h : WordAt W v l) (hword : Calls Tryd.prog 24 #[.int .i64 n, v] W fun e w' => e = .returned (.int .i64 (wordR n l)) ∧ Below W.heap.size W w') :
    Calls Tryd.prog 18 #[.int .i64 n, v] W fun e w' => e = .returned (.tuple #[.int .i64 (faultyR n l).1, .int .i64 (faultyR n l).2]) ∧ Below W.heap.size W w' := by
  have HW := Lib.hid hword
  have HL := Lib.hid (fun w1 hb => last_any (h.below (A := W) (B := w1) hb))
  clear hword
  unfold faultyR
  by_cases hc : wordR n l = 0
  · rw [if_neg (by simpa using hc)]
    rw [hc] at HW
    clear hc
    simp only
    obtain ⟨a, cap, b, off, rfl, h1, h2, h3, h4⟩ := h
    have hmx : maxLen = 9223372036854775807 := rfl
    by_cases hl : l.length = 0
    · have HZ : Hid (before l l.length = 0) := Lib.hid (by rw [hl]; rfl)
      clear h1 h2 h3
      generalize l.length = len at *
      subst hl
      go_enter Tryd.func18, Tryd.ntmps18
      go_wp2_with (first | (go_at_call 24; refine (HW.out).mono ?_; rintro e w1 ⟨rfl, hb1⟩; have HB := Lib.hid hb1; clear hb1) | (go_at_call 48; refine (HL.out _ HB.out).mono ?_; rintro e w2 ⟨rfl, rfl⟩))
      go_ret2
      exact ⟨ret_two HZ.out.symm, HB.out⟩
    · obtain ⟨q, hq⟩ : ∃ q, l.length = q + 1 := ⟨l.length - 1, by omega⟩
      have hbb := h2 (by omega)
      have HF : Hid (∀ w1, Below W.heap.size W w1 → w1.cell? ⟨b, off + q * 7 + 6, none⟩ = some (.int .i64 (before l l.length))) := Lib.hid fun w1 hb => by rw [(hb.cell (p := ⟨b, off + q * 7 + 6, none⟩) hbb), hq]; exact h3 q (by omega) 6 (by omega)
      obtain rfl := h1 (by omega)
      clear h1 h2 h3 hbb
      generalize before l l.length = g at *
      generalize l.length = len at *
      have hw1 : IntKind.i64.wrap ((len : Int) - 1) = (q : Int) := by rw [show ((len : Int) - 1) = (q : Int) by omega, IntKind.wrap_i64]; omega
      have hw2 : wrap64 ((len : Int) - 1) = (q : Int) := by unfold wrap64; omega
      have hz : ((len : Int) == 0) = false := by simpa using hl
      have hqlt : (q : Int) < (len : Int) := by omega
      have hq0 : ¬ (q : Int) < 0 := by omega
      have hqn : q < len := by omega
      clear hq
      go_enter Tryd.func18, Tryd.ntmps18
      go_wp2_with (first | (go_at_call 24; refine (HW.out).mono ?_; rintro e w1 ⟨rfl, hb1⟩; have HB := Lib.hid hb1; have d6 := HF.out _ hb1; clear hb1) | (go_at_call 48; refine (HL.out _ HB.out).mono ?_; rintro e w2 ⟨rfl, rfl⟩))
      go_ret2
      exact ⟨rfl, HB.out⟩
  · rw [if_pos hc]
    clear h
    generalize wordR n l = c at *
    have hcb : (c != 0) = true := by simpa using hc
    clear hc
    go_enter Tryd.func18, Tryd.ntmps18
    go_wp2_with (first | (go_at_call 24; refine (HW.out).mono ?_; rintro e w1 ⟨rfl, hb1⟩; have HB := Lib.hid hb1; clear hb1) | (go_at_call 48; refine (HL.out _ HB.out).mono ?_; rintro e w2 ⟨rfl, rfl⟩))
    go_ret2
    exact ⟨rfl, HB.out⟩
end Go.Proofs.YtlineonmpbdkgaaDoor.Word
