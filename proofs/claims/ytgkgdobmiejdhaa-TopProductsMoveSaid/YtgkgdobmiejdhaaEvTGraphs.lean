/-
  Two or three graphs, as caseGraphs takes them.
-/
import Derived.Test.YtgkgdobmiejdhaaEvTCase
import Derived.Test.YtgkgdobmiejdhaaEvTGAny
namespace Go.Proofs.Ytgkgdobmiejdhaa.Graph
open Go Go.RowKit Go.Graph Go.Law
open Go.Proofs.Ytgkgdobmiejdhaa.Col

theorem rows_vals (n : Nat) : ∀ (xs : List Int) (k : Nat), rows n k xs = 0 ∨ rows n k xs = 2 ∨ rows n k xs = 3
  | [], k => .inl (by simp [rows])
  | x :: xs, k => by
    rw [rows]
    split
    · split
      · exact .inr (.inr rfl)
      · exact rows_vals n xs (k + 1)
    · split
      · exact .inr (.inl rfl)
      · split
        · exact .inr (.inr rfl)
        · exact rows_vals n xs (k + 1)
theorem check_vals (n : Int) (r : List Int) : check n r = 0 ∨ check n r = 2 ∨ check n r = 3 := by
  unfold check
  split
  · exact .inr (.inl rfl)
  · exact rows_vals _ _ _
theorem good_of {n r0 r1 r2 r3 r4 : Int} (h : check n [r0, r1, r2, r3, r4] = 0) : ∃ (k : Nat) (r : Nat → Nat), WF k r ∧ n = k ∧ r0 = r 0 ∧ r1 = r 1 ∧ r2 = r 2 ∧ r3 = r 3 ∧ r4 = r 4 := by
  unfold check at h
  by_cases hn : n < 1 ∨ 5 < n
  · rw [if_pos hn] at h; omega
  · rw [if_neg hn] at h
    obtain ⟨k, rfl⟩ := Int.eq_ofNat_of_zero_le (show 0 ≤ n by omega)
    rw [Int.toNat_natCast] at h
    obtain ⟨r, hr, e0, e1, e2, e3, e4⟩ := wf_of (n := k) (by omega) (by omega) h
    exact ⟨k, r, hr, rfl, e0, e1, e2, e3, e4⟩
theorem graphs2 (n r0 r1 r2 r3 r4 m s0 s1 s2 s3 s4 : Int) : (∃ (q : Nat) (a b : Nat → Nat), WF q a ∧ WF q b ∧ (n = q ∧ r0 = a 0 ∧ r1 = a 1 ∧ r2 = a 2 ∧ r3 = a 3 ∧ r4 = a 4) ∧ (m = q ∧ s0 = b 0 ∧ s1 = b 1 ∧ s2 = b 2 ∧ s3 = b 3 ∧ s4 = b 4) ∧ ∀ (w : World) (B : Nat), Own w B 24 [.int .i64 n, .int .i64 r0, .int .i64 r1, .int .i64 r2, .int .i64 r3, .int .i64 r4, .int .i64 m, .int .i64 s0, .int .i64 s1, .int .i64 s2, .int .i64 s3, .int .i64 s4] → Calls Try.prog 6 #[.slice (some ⟨B, 0, none⟩) 2 2] w fun e w' => e = .returned (.bool true) ∧ Below w.heap.size w w') ∨ (∀ (w : World) (B : Nat), Own w B 24 [.int .i64 n, .int .i64 r0, .int .i64 r1, .int .i64 r2, .int .i64 r3, .int .i64 r4, .int .i64 m, .int .i64 s0, .int .i64 s1, .int .i64 s2, .int .i64 s3, .int .i64 s4] → Calls Try.prog 6 #[.slice (some ⟨B, 0, none⟩) 2 2] w fun e w' => e = .returned (.bool false) ∧ Below w.heap.size w w') := by
  have H := fun (w : World) (B : Nat) (ho : Own w B 24 [.int .i64 n, .int .i64 r0, .int .i64 r1, .int .i64 r2, .int .i64 r3, .int .i64 r4, .int .i64 m, .int .i64 s0, .int .i64 s1, .int .i64 s2, .int .i64 s3, .int .i64 s4]) => case2 n r0 r1 r2 r3 r4 m s0 s1 s2 s3 s4 (check n [r0, r1, r2, r3, r4]) (check m [s0, s1, s2, s3, s4]) 24 B (check_vals n _) (check_vals m _) (grcheck n r0 r1 r2 r3 r4) (grcheck m s0 s1 s2 s3 s4) w ho
  by_cases h : check n [r0, r1, r2, r3, r4] = 0 ∧ check m [s0, s1, s2, s3, s4] = 0 ∧ m = n
  · left
    rw [decide_eq_true h] at H
    obtain ⟨h0, h1, e1⟩ := h
    obtain ⟨q0, a, w0, x0, y00, y01, y02, y03, y04⟩ := good_of h0
    obtain ⟨q1, b, w1, x1, y10, y11, y12, y13, y14⟩ := good_of h1
    have hq1 : q0 = q1 := by omega
    subst hq1
    exact ⟨_, a, b, w0, w1, ⟨x0, y00, y01, y02, y03, y04⟩, ⟨x1, y10, y11, y12, y13, y14⟩, H⟩
  · right
    rw [decide_eq_false h] at H
    exact H
theorem graphs3 (n r0 r1 r2 r3 r4 m s0 s1 s2 s3 s4 k g0 g1 g2 g3 g4 : Int) : (∃ (q : Nat) (a b c : Nat → Nat), WF q a ∧ WF q b ∧ WF q c ∧ (n = q ∧ r0 = a 0 ∧ r1 = a 1 ∧ r2 = a 2 ∧ r3 = a 3 ∧ r4 = a 4) ∧ (m = q ∧ s0 = b 0 ∧ s1 = b 1 ∧ s2 = b 2 ∧ s3 = b 3 ∧ s4 = b 4) ∧ (k = q ∧ g0 = c 0 ∧ g1 = c 1 ∧ g2 = c 2 ∧ g3 = c 3 ∧ g4 = c 4) ∧ ∀ (w : World) (B : Nat), Own w B 24 [.int .i64 n, .int .i64 r0, .int .i64 r1, .int .i64 r2, .int .i64 r3, .int .i64 r4, .int .i64 m, .int .i64 s0, .int .i64 s1, .int .i64 s2, .int .i64 s3, .int .i64 s4, .int .i64 k, .int .i64 g0, .int .i64 g1, .int .i64 g2, .int .i64 g3, .int .i64 g4] → Calls Try.prog 6 #[.slice (some ⟨B, 0, none⟩) 3 3] w fun e w' => e = .returned (.bool true) ∧ Below w.heap.size w w') ∨ (∀ (w : World) (B : Nat), Own w B 24 [.int .i64 n, .int .i64 r0, .int .i64 r1, .int .i64 r2, .int .i64 r3, .int .i64 r4, .int .i64 m, .int .i64 s0, .int .i64 s1, .int .i64 s2, .int .i64 s3, .int .i64 s4, .int .i64 k, .int .i64 g0, .int .i64 g1, .int .i64 g2, .int .i64 g3, .int .i64 g4] → Calls Try.prog 6 #[.slice (some ⟨B, 0, none⟩) 3 3] w fun e w' => e = .returned (.bool false) ∧ Below w.heap.size w w') := by
  have H := fun (w : World) (B : Nat) (ho : Own w B 24 [.int .i64 n, .int .i64 r0, .int .i64 r1, .int .i64 r2, .int .i64 r3, .int .i64 r4, .int .i64 m, .int .i64 s0, .int .i64 s1, .int .i64 s2, .int .i64 s3, .int .i64 s4, .int .i64 k, .int .i64 g0, .int .i64 g1, .int .i64 g2, .int .i64 g3, .int .i64 g4]) => case3 n r0 r1 r2 r3 r4 m s0 s1 s2 s3 s4 k g0 g1 g2 g3 g4 (check n [r0, r1, r2, r3, r4]) (check m [s0, s1, s2, s3, s4]) (check k [g0, g1, g2, g3, g4]) 24 B (check_vals n _) (check_vals m _) (check_vals k _) (grcheck n r0 r1 r2 r3 r4) (grcheck m s0 s1 s2 s3 s4) (grcheck k g0 g1 g2 g3 g4) w ho
  by_cases h : check n [r0, r1, r2, r3, r4] = 0 ∧ check m [s0, s1, s2, s3, s4] = 0 ∧ check k [g0, g1, g2, g3, g4] = 0 ∧ m = n ∧ k = n
  · left
    rw [decide_eq_true h] at H
    obtain ⟨h0, h1, h2, e1, e2⟩ := h
    obtain ⟨q0, a, w0, x0, y00, y01, y02, y03, y04⟩ := good_of h0
    obtain ⟨q1, b, w1, x1, y10, y11, y12, y13, y14⟩ := good_of h1
    obtain ⟨q2, c, w2, x2, y20, y21, y22, y23, y24⟩ := good_of h2
    have hq1 : q0 = q1 := by omega
    subst hq1
    have hq2 : q0 = q2 := by omega
    subst hq2
    exact ⟨_, a, b, c, w0, w1, w2, ⟨x0, y00, y01, y02, y03, y04⟩, ⟨x1, y10, y11, y12, y13, y14⟩, ⟨x2, y20, y21, y22, y23, y24⟩, H⟩
  · right
    rw [decide_eq_false h] at H
    exact H
end Go.Proofs.Ytgkgdobmiejdhaa.Graph
