/-
  Rounds: their check and their order, the program's and the reference's.
-/
import Derived.Test.YtlineonmpbdkgaaDoorEvGMath
import Derived.Test.YtlineonmpbdkgaaDoorEvRoCmp
namespace Go.Graph

theorem cmp_neg (x y : Int) : cmp y x = - cmp x y := by
  unfold cmp
  split <;> split <;> first | omega | (split <;> omega)
theorem lex_neg : ∀ xs ys : List Int, lex ys xs = - lex xs ys
  | [], [] => rfl
  | [], _ :: _ => rfl
  | _ :: _, [] => rfl
  | x :: xs, y :: ys => by
    have ih := lex_neg xs ys
    rw [lex, lex]
    split <;> split <;> first | omega | (split <;> omega)
theorem lex_self : ∀ xs : List Int, lex xs xs = 0
  | [] => rfl
  | x :: xs => by rw [lex, if_neg (by omega), if_neg (by omega)]; exact lex_self xs
theorem lex_range : ∀ xs ys : List Int, lex xs ys = -1 ∨ lex xs ys = 0 ∨ lex xs ys = 1
  | [], [] => .inr (.inl rfl)
  | [], _ :: _ => .inr (.inl rfl)
  | _ :: _, [] => .inr (.inl rfl)
  | x :: xs, y :: ys => by
    rw [lex]
    split
    · exact .inl rfl
    · split
      · exact .inr (.inr rfl)
      · exact lex_range xs ys
theorem lex_zero : ∀ {xs ys : List Int}, xs.length = ys.length → (lex xs ys = 0 ↔ xs = ys)
  | [], [], _ => ⟨fun _ => rfl, fun _ => rfl⟩
  | [], _ :: _, h => by simp at h
  | _ :: _, [], h => by simp at h
  | x :: xs, y :: ys, h => by
    have ih := lex_zero (xs := xs) (ys := ys) (by simpa using h)
    rw [lex]
    constructor
    · intro e
      split at e
      · omega
      · split at e
        · omega
        · rw [ih.1 e, show x = y by omega]
    · intro e
      injection e with e1 e2
      rw [if_neg (by omega), if_neg (by omega)]
      exact ih.2 e2
/-- Where neither step goes down, the way over both goes as the greater step does. -/
theorem lex_trans : ∀ {xs ys zs : List Int}, xs.length = ys.length → ys.length = zs.length → lex xs ys ≤ 0 → lex ys zs ≤ 0 → lex xs zs = max (-1) (lex xs ys + lex ys zs)
  | [], [], [], _, _, _, _ => rfl
  | [], _ :: _, _, h, _, _, _ => by simp at h
  | _ :: _, [], _, h, _, _, _ => by simp at h
  | [], [], _ :: _, _, h, _, _ => by simp at h
  | _ :: _, _ :: _, [], _, h, _, _ => by simp at h
  | x :: xs, y :: ys, z :: zs, h1, h2, h3, h4 => by
    have hr1 := lex_range xs ys
    have hr2 := lex_range ys zs
    simp only [lex] at h3 h4 ⊢
    by_cases a : x < y
    · by_cases b : y < z
      · rw [if_pos a, if_pos b, if_pos (by omega)]; omega
      · by_cases c : z < y
        · rw [if_neg b, if_pos c] at h4; omega
        · rw [if_neg b, if_neg c] at h4
          rw [if_pos a, if_neg b, if_neg c, if_pos (by omega)]; omega
    · by_cases c : y < x
      · rw [if_neg a, if_pos c] at h3; omega
      · rw [if_neg a, if_neg c] at h3
        by_cases b : y < z
        · rw [if_neg a, if_neg c, if_pos b, if_pos (by omega)]; omega
        · by_cases d : z < y
          · rw [if_neg b, if_pos d] at h4; omega
          · rw [if_neg b, if_neg d] at h4
            rw [if_neg a, if_neg c, if_neg b, if_neg d, if_neg (by omega), if_neg (by omega)]
            exact lex_trans (by simpa using h1) (by simpa using h2) h3 h4
end Go.Graph
namespace Go.Proofs.YtlineonmpbdkgaaDoor.Graph
open Go Go.RowKit Go.Graph Go.Law
open Go.Proofs.YtlineonmpbdkgaaDoor.Col

theorem bel_le {B : Nat} {w w' : World} (h : Below w.heap.size w w') (hB : B ≤ w.heap.size) : Below B w w' := h.mono hB
theorem procs_ok (n : Nat) (h1 : 1 ≤ n) (h5 : n ≤ 5) (w : World) : Calls Tryd.prog 54 #[.int .i64 n] w fun e w' => e = .returned (.int .i64 0) ∧ w = w' := by
  have h1' : ¬ (n : Int) < 1 := by omega
  have h5' : ¬ (n : Int) > 5 := by omega
  go_enter Tryd.func54, Tryd.ntmps54
  go_wp2
  go_ret
  exact ⟨rfl, rfl⟩
theorem rpcheck_ok (n : Nat) (h1 : 1 ≤ n) (h5 : n ≤ 5) (x : Nat) (hx : x < 2 ^ n) (w : World) : Calls Tryd.prog 37 #[.int .i64 n, .int .i64 x] w fun e w' => e = .returned (.int .i64 0) ∧ w = w' := by
  have hx1 : ¬ (x : Int) ≥ ((2 ^ n : Nat) : Int) := by omega
  have hx0 : ¬ (x : Int) < 0 := by omega
  have HP := Lib.hid (power_any n h5)
  generalize 2 ^ n = P at *
  go_enter Tryd.func37, Tryd.ntmps37
  go_wp2_with (first | (go_at_call 54; refine (procs_ok n h1 h5 _).mono ?_; rintro e w' ⟨rfl, rfl⟩) | (go_at_call 63; refine (HP.out _).mono ?_; rintro e w' ⟨rfl, rfl⟩))
  go_ret
  exact ⟨rfl, rfl⟩
theorem rpcheck_bad (n : Nat) (h1 : 1 ≤ n) (h5 : n ≤ 5) (x : Int) (hx : x < 0 ∨ ((2 ^ n : Nat) : Int) ≤ x) (w : World) : Calls Tryd.prog 37 #[.int .i64 n, .int .i64 x] w fun e w' => e = .returned (.int .i64 2) ∧ w = w' := by
  have HP := Lib.hid (power_any n h5)
  rcases hx with hx | hx
  · generalize 2 ^ n = P at *
    go_enter Tryd.func37, Tryd.ntmps37
    go_wp2_with (first | (go_at_call 54; refine (procs_ok n h1 h5 _).mono ?_; rintro e w' ⟨rfl, rfl⟩) | (go_at_call 63; refine (HP.out _).mono ?_; rintro e w' ⟨rfl, rfl⟩))
    go_ret
    exact ⟨rfl, rfl⟩
  · generalize 2 ^ n = P at *
    have hx1 : x ≥ (P : Int) := hx
    have hx0 : ¬ x < 0 := by omega
    clear hx
    go_enter Tryd.func37, Tryd.ntmps37
    go_wp2_with (first | (go_at_call 54; refine (procs_ok n h1 h5 _).mono ?_; rintro e w' ⟨rfl, rfl⟩) | (go_at_call 63; refine (HP.out _).mono ?_; rintro e w' ⟨rfl, rfl⟩))
    go_ret
    exact ⟨rfl, rfl⟩

theorem seven (w : World) (n r0 r1 r2 r3 r4 f : Int) : ∀ w1 : World, Below (w.alloc (.cells #[.int .i64 n, .int .i64 r0, .int .i64 r1, .int .i64 r2, .int .i64 r3, .int .i64 r4, .int .i64 f] 26)).heap.size (w.alloc (.cells #[.int .i64 n, .int .i64 r0, .int .i64 r1, .int .i64 r2, .int .i64 r3, .int .i64 r4, .int .i64 f] 26)) w1 →
    Below w.heap.size w w1 ∧ w1.cell? ⟨w.heap.size, 0, none⟩ = some (.int .i64 n) ∧ w1.cell? ⟨w.heap.size, 6, none⟩ = some (.int .i64 f) := by
  intro w1 hb
  refine ⟨(below_alloc w _).trans (bel_le hb (below_alloc w _).size), ?_, ?_⟩
  · rw [hb.cell (by rw [size_alloc]; exact Nat.lt_succ_self _), World.cell?_alloc_at _ _ _ _ rfl]; rfl
  · rw [hb.cell (by rw [size_alloc]; exact Nat.lt_succ_self _), World.cell?_alloc_at _ _ _ _ rfl]; rfl
/-- The error of a round. -/
def rcheck (n : Int) (r : List Int) (f : Int) : Int := if check n r ≠ 0 then check n r else if f < 0 ∨ ((2 ^ n.toNat : Nat) : Int) ≤ f then 2 else 0
theorem check_size {n : Int} {r : List Int} (h : check n r = 0) : 1 ≤ n ∧ n ≤ 5 := by
  unfold check at h
  split at h
  · omega
  · omega
theorem round_check (n r0 r1 r2 r3 r4 f : Int) (w : World) :
    Calls Tryd.prog 9 #[.agg #[.int .i64 n, .int .i64 r0, .int .i64 r1, .int .i64 r2, .int .i64 r3, .int .i64 r4, .int .i64 f]] w fun e w' => e = .returned (.int .i64 (rcheck n [r0, r1, r2, r3, r4] f)) ∧ Below w.heap.size w w' := by
  have HG := Lib.hid (gcheck n r0 r1 r2 r3 r4)
  have H7 := Lib.hid (seven w n r0 r1 r2 r3 r4 f)
  unfold rcheck
  by_cases hc : check n [r0, r1, r2, r3, r4] = 0
  · rw [if_neg (by omega)]
    obtain ⟨h1, h5⟩ := check_size hc
    obtain ⟨k, rfl⟩ := Int.eq_ofNat_of_zero_le (show 0 ≤ n by omega)
    rw [hc] at HG
    clear hc
    rw [Int.toNat_natCast]
    by_cases hf : f < 0 ∨ ((2 ^ k : Nat) : Int) ≤ f
    · rw [if_pos hf]
      have HF := Lib.hid (pcheck_bad k (by omega) (by omega) f hf)
      clear hf
      go_enter Tryd.func9, Tryd.ntmps9
      go_wp2_with (first | (go_at_call 34; refine (HG.out _).mono ?_; rintro e w1 ⟨rfl, hb⟩; obtain ⟨hB, c0, c6⟩ := H7.out _ hb; have HB := Lib.hid hB; clear hb hB) | (go_at_call 35; refine (HF.out _).mono ?_; rintro e w' ⟨rfl, rfl⟩))
      go_ret
      exact ⟨rfl, HB.out⟩
    · rw [if_neg hf]
      obtain ⟨q, rfl⟩ := Int.eq_ofNat_of_zero_le (show 0 ≤ f by omega)
      have HF := Lib.hid (pcheck_ok k (by omega) (by omega) q (by omega))
      clear hf
      go_enter Tryd.func9, Tryd.ntmps9
      go_wp2_with (first | (go_at_call 34; refine (HG.out _).mono ?_; rintro e w1 ⟨rfl, hb⟩; obtain ⟨hB, c0, c6⟩ := H7.out _ hb; have HB := Lib.hid hB; clear hb hB) | (go_at_call 35; refine (HF.out _).mono ?_; rintro e w' ⟨rfl, rfl⟩))
      go_ret
      exact ⟨rfl, HB.out⟩
  · rw [if_pos hc]
    generalize check n [r0, r1, r2, r3, r4] = c at *
    have hb : (c != 0) = true := by simpa using hc
    clear hc
    go_enter Tryd.func9, Tryd.ntmps9
    go_wp2_with (go_at_call 34; refine (HG.out _).mono ?_; rintro e w1 ⟨rfl, hb1⟩; obtain ⟨hB, c0, c6⟩ := H7.out _ hb1; have HB := Lib.hid hB; clear hb1 hB)
    go_ret
    exact ⟨rfl, HB.out⟩
theorem rround_check (n r0 r1 r2 r3 r4 f : Int) (w : World) :
    Calls Tryd.prog 10 #[.agg #[.int .i64 n, .int .i64 r0, .int .i64 r1, .int .i64 r2, .int .i64 r3, .int .i64 r4, .int .i64 f]] w fun e w' => e = .returned (.int .i64 (rcheck n [r0, r1, r2, r3, r4] f)) ∧ Below w.heap.size w w' := by
  have HG := Lib.hid (grcheck n r0 r1 r2 r3 r4)
  have H7 := Lib.hid (seven w n r0 r1 r2 r3 r4 f)
  unfold rcheck
  by_cases hc : check n [r0, r1, r2, r3, r4] = 0
  · rw [if_neg (by omega)]
    obtain ⟨h1, h5⟩ := check_size hc
    obtain ⟨k, rfl⟩ := Int.eq_ofNat_of_zero_le (show 0 ≤ n by omega)
    rw [hc] at HG
    clear hc
    rw [Int.toNat_natCast]
    by_cases hf : f < 0 ∨ ((2 ^ k : Nat) : Int) ≤ f
    · rw [if_pos hf]
      have HF := Lib.hid (rpcheck_bad k (by omega) (by omega) f hf)
      clear hf
      go_enter Tryd.func10, Tryd.ntmps10
      go_wp2_with (first | (go_at_call 36; refine (HG.out _).mono ?_; rintro e w1 ⟨rfl, hb⟩; obtain ⟨hB, c0, c6⟩ := H7.out _ hb; have HB := Lib.hid hB; clear hb hB) | (go_at_call 37; refine (HF.out _).mono ?_; rintro e w' ⟨rfl, rfl⟩))
      go_ret
      exact ⟨rfl, HB.out⟩
    · rw [if_neg hf]
      obtain ⟨q, rfl⟩ := Int.eq_ofNat_of_zero_le (show 0 ≤ f by omega)
      have HF := Lib.hid (rpcheck_ok k (by omega) (by omega) q (by omega))
      clear hf
      go_enter Tryd.func10, Tryd.ntmps10
      go_wp2_with (first | (go_at_call 36; refine (HG.out _).mono ?_; rintro e w1 ⟨rfl, hb⟩; obtain ⟨hB, c0, c6⟩ := H7.out _ hb; have HB := Lib.hid hB; clear hb hB) | (go_at_call 37; refine (HF.out _).mono ?_; rintro e w' ⟨rfl, rfl⟩))
      go_ret
      exact ⟨rfl, HB.out⟩
  · rw [if_pos hc]
    generalize check n [r0, r1, r2, r3, r4] = c at *
    have hb : (c != 0) = true := by simpa using hc
    clear hc
    go_enter Tryd.func10, Tryd.ntmps10
    go_wp2_with (go_at_call 36; refine (HG.out _).mono ?_; rintro e w1 ⟨rfl, hb1⟩; obtain ⟨hB, c0, c6⟩ := H7.out _ hb1; have HB := Lib.hid hB; clear hb1 hB)
    go_ret
    exact ⟨rfl, HB.out⟩
end Go.Proofs.YtlineonmpbdkgaaDoor.Graph
