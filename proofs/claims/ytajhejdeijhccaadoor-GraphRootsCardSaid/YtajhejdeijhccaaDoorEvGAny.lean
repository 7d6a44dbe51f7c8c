/-
  Products, unions and reversals of any graphs: the program and the reference agree.
-/
import Derived.Test.YtajhejdeijhccaaDoorEvGRefUnion
import Derived.Test.YtajhejdeijhccaaDoorEvGRefUnion
import Derived.Test.YtajhejdeijhccaaDoorEvGRefRev
namespace Go.Proofs.YtajhejdeijhccaaDoor.Graph
open Go Go.RowKit Go.Graph Go.Law
open Go.Proofs.YtajhejdeijhccaaDoor.Col

/-- A graph is well-formed, or has an error. -/
theorem wf_or (n r0 r1 r2 r3 r4 : Int) : (∃ (k : Nat) (r : Nat → Nat), WF k r ∧ n = k ∧ r0 = r 0 ∧ r1 = r 1 ∧ r2 = r 2 ∧ r3 = r 3 ∧ r4 = r 4) ∨ ∃ c : Int, c ≠ 0 ∧ (∀ w : World, Calls Tryd.prog 16 #[.agg #[.int .i64 n, .int .i64 r0, .int .i64 r1, .int .i64 r2, .int .i64 r3, .int .i64 r4]] w fun e w' => e = .returned (.int .i64 c) ∧ Below w.heap.size w w') ∧ (∀ w : World, Calls Tryd.prog 17 #[.agg #[.int .i64 n, .int .i64 r0, .int .i64 r1, .int .i64 r2, .int .i64 r3, .int .i64 r4]] w fun e w' => e = .returned (.int .i64 c) ∧ Below w.heap.size w w') := by
  obtain ⟨c, h1, h2, h3, h4⟩ := checks' n r0 r1 r2 r3 r4
  by_cases hc : c = 0
  · subst hc
    obtain ⟨ha, hb⟩ := h1 rfl
    obtain ⟨k, rfl⟩ := Int.eq_ofNat_of_zero_le (show 0 ≤ n by omega)
    obtain ⟨r, hr, e0, e1, e2, e3, e4⟩ := wf_of (n := k) (by omega) (by omega) (h4 ha hb).symm
    exact .inl ⟨k, r, hr, rfl, e0, e1, e2, e3, e4⟩
  · exact .inr ⟨c, hc, h2, h3⟩
/-- Two graphs are well-formed and of one size, or have an error. -/
theorem two_or (n r0 r1 r2 r3 r4 m s0 s1 s2 s3 s4 : Int) : (∃ (k : Nat) (r s : Nat → Nat), WF k r ∧ WF k s ∧ n = k ∧ m = k ∧ (r0 = r 0 ∧ r1 = r 1 ∧ r2 = r 2 ∧ r3 = r 3 ∧ r4 = r 4) ∧ s0 = s 0 ∧ s1 = s 1 ∧ s2 = s 2 ∧ s3 = s 3 ∧ s4 = s 4) ∨ ∃ c : Int, c ≠ 0 ∧ (∀ w : World, Calls Tryd.prog 60 #[.agg #[.int .i64 n, .int .i64 r0, .int .i64 r1, .int .i64 r2, .int .i64 r3, .int .i64 r4], .agg #[.int .i64 m, .int .i64 s0, .int .i64 s1, .int .i64 s2, .int .i64 s3, .int .i64 s4]] w fun e w' => e = .returned (.int .i64 c) ∧ Below w.heap.size w w') ∧ (∀ w : World, Calls Tryd.prog 47 #[.agg #[.int .i64 n, .int .i64 r0, .int .i64 r1, .int .i64 r2, .int .i64 r3, .int .i64 r4], .agg #[.int .i64 m, .int .i64 s0, .int .i64 s1, .int .i64 s2, .int .i64 s3, .int .i64 s4]] w fun e w' => e = .returned (.int .i64 c) ∧ Below w.heap.size w w') := by
  obtain ⟨ca, h1, h2, h3, h4⟩ := checks' n r0 r1 r2 r3 r4
  obtain ⟨cb, g1, g2, g3, g4⟩ := checks' m s0 s1 s2 s3 s4
  by_cases hc : bothV ca cb n m = 0
  · unfold bothV at hc
    split at hc
    · rename_i ha0
      split at hc
      · rename_i hb0
        split at hc
        · rename_i hnm
          subst ha0 hb0 hnm
          obtain ⟨ha, hb⟩ := h1 rfl
          obtain ⟨k, rfl⟩ := Int.eq_ofNat_of_zero_le (show 0 ≤ n by omega)
          obtain ⟨r, hr, e⟩ := wf_of (n := k) (by omega) (by omega) (h4 ha hb).symm
          obtain ⟨s, hs, f⟩ := wf_of (n := k) (by omega) (by omega) (g4 ha hb).symm
          exact .inl ⟨k, r, s, hr, hs, rfl, rfl, e, f⟩
        · omega
      · rename_i hb0; exact absurd hc hb0
    · rename_i ha0; exact absurd hc ha0
  · exact .inr ⟨_, hc, both60 n r0 r1 r2 r3 r4 m s0 s1 s2 s3 s4 ca cb h2 g2, both47 n r0 r1 r2 r3 r4 m s0 s1 s2 s3 s4 ca cb h3 g3⟩
theorem compose_any (n r0 r1 r2 r3 r4 m s0 s1 s2 s3 s4 : Int) : ∃ k p0 p1 p2 p3 p4 c : Int, (∀ w : World, Calls Tryd.prog 21 #[.agg #[.int .i64 n, .int .i64 r0, .int .i64 r1, .int .i64 r2, .int .i64 r3, .int .i64 r4], .agg #[.int .i64 m, .int .i64 s0, .int .i64 s1, .int .i64 s2, .int .i64 s3, .int .i64 s4]] w fun x w' => x = .returned (pairV k p0 p1 p2 p3 p4 c) ∧ Below w.heap.size w w') ∧ (∀ w : World, Calls Tryd.prog 22 #[.agg #[.int .i64 n, .int .i64 r0, .int .i64 r1, .int .i64 r2, .int .i64 r3, .int .i64 r4], .agg #[.int .i64 m, .int .i64 s0, .int .i64 s1, .int .i64 s2, .int .i64 s3, .int .i64 s4]] w fun x w' => x = .returned (pairV k p0 p1 p2 p3 p4 c) ∧ Below w.heap.size w w') := by
  rcases two_or n r0 r1 r2 r3 r4 m s0 s1 s2 s3 s4 with ⟨k, r, s, hr, hs, rfl, rfl, ⟨rfl, rfl, rfl, rfl, rfl⟩, rfl, rfl, rfl, rfl, rfl⟩ | ⟨c, hc, h1, h2⟩
  · exact ⟨_, _, _, _, _, _, _, product_wf hr hs, rcompose_wf hr hs⟩
  · exact ⟨_, _, _, _, _, _, _, product_bad _ _ _ _ _ _ _ _ _ _ _ _ _ hc h1, rcompose_bad _ _ _ _ _ _ _ _ _ _ _ _ _ hc h2⟩
theorem union_any (n r0 r1 r2 r3 r4 m s0 s1 s2 s3 s4 : Int) : ∃ k p0 p1 p2 p3 p4 c : Int, (∀ w : World, Calls Tryd.prog 23 #[.agg #[.int .i64 n, .int .i64 r0, .int .i64 r1, .int .i64 r2, .int .i64 r3, .int .i64 r4], .agg #[.int .i64 m, .int .i64 s0, .int .i64 s1, .int .i64 s2, .int .i64 s3, .int .i64 s4]] w fun x w' => x = .returned (pairV k p0 p1 p2 p3 p4 c) ∧ Below w.heap.size w w') ∧ (∀ w : World, Calls Tryd.prog 24 #[.agg #[.int .i64 n, .int .i64 r0, .int .i64 r1, .int .i64 r2, .int .i64 r3, .int .i64 r4], .agg #[.int .i64 m, .int .i64 s0, .int .i64 s1, .int .i64 s2, .int .i64 s3, .int .i64 s4]] w fun x w' => x = .returned (pairV k p0 p1 p2 p3 p4 c) ∧ Below w.heap.size w w') := by
  rcases two_or n r0 r1 r2 r3 r4 m s0 s1 s2 s3 s4 with ⟨k, r, s, hr, hs, rfl, rfl, ⟨rfl, rfl, rfl, rfl, rfl⟩, rfl, rfl, rfl, rfl, rfl⟩ | ⟨c, hc, h1, h2⟩
  · exact ⟨_, _, _, _, _, _, _, union_wf hr hs, runion_wf hr hs⟩
  · exact ⟨_, _, _, _, _, _, _, union_bad _ _ _ _ _ _ _ _ _ _ _ _ _ hc h1, runion_bad _ _ _ _ _ _ _ _ _ _ _ _ _ hc h2⟩
theorem reverse_any (n r0 r1 r2 r3 r4 : Int) : ∃ k p0 p1 p2 p3 p4 c : Int, (∀ w : World, Calls Tryd.prog 25 #[.agg #[.int .i64 n, .int .i64 r0, .int .i64 r1, .int .i64 r2, .int .i64 r3, .int .i64 r4]] w fun x w' => x = .returned (pairV k p0 p1 p2 p3 p4 c) ∧ Below w.heap.size w w') ∧ (∀ w : World, Calls Tryd.prog 26 #[.agg #[.int .i64 n, .int .i64 r0, .int .i64 r1, .int .i64 r2, .int .i64 r3, .int .i64 r4]] w fun x w' => x = .returned (pairV k p0 p1 p2 p3 p4 c) ∧ Below w.heap.size w w') := by
  rcases wf_or n r0 r1 r2 r3 r4 with ⟨k, r, hr, rfl, rfl, rfl, rfl, rfl, rfl⟩ | ⟨c, hc, h1, h2⟩
  · exact ⟨_, _, _, _, _, _, _, reverse_wf hr, rreverse_wf hr⟩
  · exact ⟨_, _, _, _, _, _, _, reverse_bad _ _ _ _ _ _ _ hc h1, rreverse_bad _ _ _ _ _ _ _ hc h2⟩
end Go.Proofs.YtajhejdeijhccaaDoor.Graph
