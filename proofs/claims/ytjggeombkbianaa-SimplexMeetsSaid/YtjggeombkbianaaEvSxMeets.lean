/-
  SimplexMeets: the law's walk.
-/
import Derived.Test.YtjggeombkbianaaEvSxRestrict
import Derived.Test.YtjggeombkbianaaEvSxOrder
import Derived.Test.YtjggeombkbianaaEvSxSeat
namespace Go.Proofs.Ytjggeombkbianaa.Sx
open Go Go.RowKit Go.Law Go.Sx
open Go.Proofs.Ytjggeombkbianaa.Ev (awake)

set_option maxRecDepth 100000 in
set_option maxHeartbeats 4000000 in
theorem meets_few (a1 a2 : Option Addr) (n1 n2 k1 k2 : Nat) (s : Int) (w : World) (m1 : n1 ≤ 10) (m2 : n2 ≤ 10) (r1 r2 r3 r4 r5 : Int) (L1 L2 L3 L4 L5 : List V)
    (hl1 : L1.length ≤ 4096)
    (hl2 : L2.length ≤ 4096)
    (hl3 : L3.length ≤ 4096)
    (hl4 : L4.length ≤ 4096)
    (hl5 : L5.length ≤ 4096)
    (g28 : ∀ w1, Below w.heap.size w w1 → Calls Try.prog 28 #[.slice a1 n1 k1, .slice a2 n2 k2] w1 fun e w' => ∃ u, e = .returned (.tuple #[u, .int .i64 r1]) ∧ Below w1.heap.size w1 w' ∧ VTop w' u L1)
    (g29 : ∀ w1, Below w.heap.size w w1 → Calls Try.prog 29 #[.slice a1 n1 k1, .slice a2 n2 k2] w1 fun e w' => ∃ u, e = .returned (.tuple #[u, .int .i64 r1]) ∧ Below w1.heap.size w1 w' ∧ VTop w' u L1)
    (g30 : ∀ w1, Below w.heap.size w w1 → Calls Try.prog 30 #[.slice a1 n1 k1, .slice a2 n2 k2] w1 fun e w' => ∃ u, e = .returned (.tuple #[u, .int .i64 r2]) ∧ Below w1.heap.size w1 w' ∧ VTop w' u L2)
    (g31 : ∀ w1, Below w.heap.size w w1 → Calls Try.prog 31 #[.slice a1 n1 k1, .slice a2 n2 k2] w1 fun e w' => ∃ u, e = .returned (.tuple #[u, .int .i64 r2]) ∧ Below w1.heap.size w1 w' ∧ VTop w' u L2)
    (g32 : ∀ w1, Below w.heap.size w w1 → Calls Try.prog 32 #[.slice a1 n1 k1, .slice a2 n2 k2] w1 fun e w' => ∃ u, e = .returned (.tuple #[u, .int .i64 r3]) ∧ Below w1.heap.size w1 w' ∧ VTop w' u L3)
    (g33 : ∀ w1, Below w.heap.size w w1 → Calls Try.prog 33 #[.slice a1 n1 k1, .slice a2 n2 k2] w1 fun e w' => ∃ u, e = .returned (.tuple #[u, .int .i64 r3]) ∧ Below w1.heap.size w1 w' ∧ VTop w' u L3)
    (g34 : ∀ w1, Below w.heap.size w w1 → Calls Try.prog 34 #[.slice a1 n1 k1, .slice a2 n2 k2] w1 fun e w' => ∃ u, e = .returned (.tuple #[u, .int .i64 r4]) ∧ Below w1.heap.size w1 w' ∧ VTop w' u L4)
    (g35 : ∀ w1, Below w.heap.size w w1 → Calls Try.prog 35 #[.slice a1 n1 k1, .slice a2 n2 k2] w1 fun e w' => ∃ u, e = .returned (.tuple #[u, .int .i64 r4]) ∧ Below w1.heap.size w1 w' ∧ VTop w' u L4)
    (g36 : ∀ w1, Below w.heap.size w w1 → Calls Try.prog 36 #[.slice a1 n1 k1, .int .i64 s] w1 fun e w' => ∃ u, e = .returned (.tuple #[u, .int .i64 r5]) ∧ Below w1.heap.size w1 w' ∧ VTop w' u L5)
    (g37 : ∀ w1, Below w.heap.size w w1 → Calls Try.prog 37 #[.slice a1 n1 k1, .int .i64 s] w1 fun e w' => ∃ u, e = .returned (.tuple #[u, .int .i64 r5]) ∧ Below w1.heap.size w1 w' ∧ VTop w' u L5) :
    Calls Try.prog 5 #[.slice a1 n1 k1, .slice a2 n2 k2, .int .i64 s] w fun e w' => e = .returned (.bool true) ∧ Below w.heap.size w w' := by
  have HA := Lib.hid awake
  have F1 := Lib.hid (few_any a1 n1 k1)
  have F2 := Lib.hid (few_any a2 n2 k2)
  rw [decide_eq_true m1] at F1
  rw [decide_eq_true m2] at F2
  have G28 := Lib.hid g28
  have G29 := Lib.hid g29
  have HL1 := Lib.hid hl1
  have hr1 : (r1 != r1) = false := by simp
  have G30 := Lib.hid g30
  have G31 := Lib.hid g31
  have HL2 := Lib.hid hl2
  have hr2 : (r2 != r2) = false := by simp
  have G32 := Lib.hid g32
  have G33 := Lib.hid g33
  have HL3 := Lib.hid hl3
  have hr3 : (r3 != r3) = false := by simp
  have G34 := Lib.hid g34
  have G35 := Lib.hid g35
  have HL4 := Lib.hid hl4
  have hr4 : (r4 != r4) = false := by simp
  have G36 := Lib.hid g36
  have G37 := Lib.hid g37
  have HL5 := Lib.hid hl5
  have hr5 : (r5 == r5) = true := by simp
  have T0 := Lib.hid (Below.refl w.heap.size w)
  clear m1 m2 g28 g29 g30 g31 g32 g33 g34 g35 g36 g37 hl1 hl2 hl3 hl4 hl5
  go_enter Try.func5, Try.ntmps5
  go_wp2_with first
    | (go_at_call 10; with_reducible refine (F1.out _).mono ?_; rintro e w' ⟨rfl, rfl⟩)
    | (go_at_call 10; with_reducible refine (F2.out _).mono ?_; rintro e w' ⟨rfl, rfl⟩)
  refine (G28.out _ T0.out).mono ?_
  rintro e w1 ⟨u, he, hb, hv⟩
  subst he
  have T1 := Lib.hid (T0.out.trans (bel_le hb T0.out.size))
  have U := Lib.hid hv
  clear hb hv
  go_wp2_with fail
  refine (G29.out _ T1.out).mono ?_
  rintro e w2 ⟨v, he, hb, hv⟩
  subst he
  have T2 := Lib.hid (T1.out.trans (bel_le hb T1.out.size))
  have HS := Lib.hid (same_top (U.out.below hb) hv HL1.out)
  clear hb hv U
  go_wp2_with (go_at_call 20; refine (HS.out).mono ?_; rintro e w3 ⟨rfl, hb⟩; have T3 := Lib.hid (T2.out.trans (bel_le hb T2.out.size)); clear hb HS)
  refine (G30.out _ T3.out).mono ?_
  rintro e w1 ⟨u, he, hb, hv⟩
  subst he
  have T4 := Lib.hid (T3.out.trans (bel_le hb T3.out.size))
  have U := Lib.hid hv
  clear hb hv
  go_wp2_with fail
  refine (G31.out _ T4.out).mono ?_
  rintro e w2 ⟨v, he, hb, hv⟩
  subst he
  have T5 := Lib.hid (T4.out.trans (bel_le hb T4.out.size))
  have HS := Lib.hid (same_top (U.out.below hb) hv HL2.out)
  clear hb hv U
  go_wp2_with (go_at_call 20; refine (HS.out).mono ?_; rintro e w3 ⟨rfl, hb⟩; have T6 := Lib.hid (T5.out.trans (bel_le hb T5.out.size)); clear hb HS)
  refine (G32.out _ T6.out).mono ?_
  rintro e w1 ⟨u, he, hb, hv⟩
  subst he
  have T7 := Lib.hid (T6.out.trans (bel_le hb T6.out.size))
  have U := Lib.hid hv
  clear hb hv
  go_wp2_with fail
  refine (G33.out _ T7.out).mono ?_
  rintro e w2 ⟨v, he, hb, hv⟩
  subst he
  have T8 := Lib.hid (T7.out.trans (bel_le hb T7.out.size))
  have HS := Lib.hid (same_top (U.out.below hb) hv HL3.out)
  clear hb hv U
  go_wp2_with (go_at_call 20; refine (HS.out).mono ?_; rintro e w3 ⟨rfl, hb⟩; have T9 := Lib.hid (T8.out.trans (bel_le hb T8.out.size)); clear hb HS)
  refine (G34.out _ T9.out).mono ?_
  rintro e w1 ⟨u, he, hb, hv⟩
  subst he
  have T10 := Lib.hid (T9.out.trans (bel_le hb T9.out.size))
  have U := Lib.hid hv
  clear hb hv
  go_wp2_with fail
  refine (G35.out _ T10.out).mono ?_
  rintro e w2 ⟨v, he, hb, hv⟩
  subst he
  have T11 := Lib.hid (T10.out.trans (bel_le hb T10.out.size))
  have HS := Lib.hid (same_top (U.out.below hb) hv HL4.out)
  clear hb hv U
  go_wp2_with (go_at_call 20; refine (HS.out).mono ?_; rintro e w3 ⟨rfl, hb⟩; have T12 := Lib.hid (T11.out.trans (bel_le hb T11.out.size)); clear hb HS)
  refine (G36.out _ T12.out).mono ?_
  rintro e w1 ⟨u, he, hb, hv⟩
  subst he
  have T13 := Lib.hid (T12.out.trans (bel_le hb T12.out.size))
  have U := Lib.hid hv
  clear hb hv
  go_wp2_with fail
  refine (G37.out _ T13.out).mono ?_
  rintro e w2 ⟨v, he, hb, hv⟩
  subst he
  have T14 := Lib.hid (T13.out.trans (bel_le hb T13.out.size))
  have HS := Lib.hid (same_top (U.out.below hb) hv HL5.out)
  clear hb hv U
  go_wp2_with first
    | (go_at_call 20; refine (HS.out).mono ?_; rintro e w3 ⟨rfl, hb⟩; have T15 := Lib.hid (T14.out.trans (bel_le hb T14.out.size)); clear hb HS)
    | (go_at_call 11; refine (HA.out _).mono ?_; rintro e w4 ⟨rfl, hb⟩; have T16 := Lib.hid (T15.out.trans (bel_le hb T15.out.size)); clear hb)
  go_ret
  exact ⟨rfl, T16.out⟩
set_option maxRecDepth 100000 in
set_option maxHeartbeats 1000000 in
theorem meets_many1 (a1 a2 : Option Addr) (n1 n2 k1 k2 : Nat) (s : Int) (w : World) (m1 : ¬ n1 ≤ 10) : Calls Try.prog 5 #[.slice a1 n1 k1, .slice a2 n2 k2, .int .i64 s] w fun e w' => e = .returned (.bool true) ∧ Below w.heap.size w w' := by
  have HA := Lib.hid (awake w)
  have F1 := Lib.hid (few_any a1 n1 k1)
  rw [decide_eq_false m1] at F1
  clear m1
  go_enter Try.func5, Try.ntmps5
  go_wp2_with first
    | (go_at_call 10; with_reducible refine (F1.out _).mono ?_; rintro e w' ⟨rfl, rfl⟩)
    | (go_at_call 11; refine (HA.out).mono ?_; rintro e w1 ⟨rfl, hb⟩; have T := Lib.hid hb; clear hb)
  go_ret
  exact ⟨rfl, T.out⟩
set_option maxRecDepth 100000 in
set_option maxHeartbeats 1000000 in
theorem meets_many2 (a1 a2 : Option Addr) (n1 n2 k1 k2 : Nat) (s : Int) (w : World) (m1 : n1 ≤ 10) (m2 : ¬ n2 ≤ 10) : Calls Try.prog 5 #[.slice a1 n1 k1, .slice a2 n2 k2, .int .i64 s] w fun e w' => e = .returned (.bool true) ∧ Below w.heap.size w w' := by
  have HA := Lib.hid (awake w)
  have F1 := Lib.hid (few_any a1 n1 k1)
  rw [decide_eq_true m1] at F1
  have F2 := Lib.hid (few_any a2 n2 k2)
  rw [decide_eq_false m2] at F2
  clear m2
  clear m1
  go_enter Try.func5, Try.ntmps5
  go_wp2_with first
    | (go_at_call 10; with_reducible refine (F1.out _).mono ?_; rintro e w' ⟨rfl, rfl⟩)
    | (go_at_call 10; with_reducible refine (F2.out _).mono ?_; rintro e w' ⟨rfl, rfl⟩)
    | (go_at_call 11; refine (HA.out).mono ?_; rintro e w1 ⟨rfl, hb⟩; have T := Lib.hid hb; clear hb)
  go_ret
  exact ⟨rfl, T.out⟩
theorem filTo_small (P : V → Bool) (A : List V) (n : Nat) (h : n ≤ 10) : (filTo P A n).length ≤ 4096 := by
  have := filTo_length P A n
  omega
theorem selR_small (A B M : List V) (h : M.length ≤ 4096) : (selR A B M).1.length ≤ 4096 := by
  unfold selR
  split
  · simp
  · exact h
theorem capR_small (U : List V) : (capR U).1.length ≤ 4096 := by
  unfold capR
  split
  · simp
  · simp only; omega
theorem simplexMeets_walk {w : World} {v1 v2 : Value} {A B : List V} (h1 : VTop w v1 A) (h2 : VTop w v2 B) (s : Int) : Calls Try.prog 5 #[v1, v2, .int .i64 s] w fun e w' => e = .returned (.bool true) ∧ Below w.heap.size w w' := by
  obtain ⟨a1, n1, k1, b1, o1, rfl, i1⟩ := h1
  obtain ⟨a2, n2, k2, b2, o2, rfl, i2⟩ := h2
  by_cases m1 : n1 ≤ 10
  · by_cases m2 : n2 ≤ 10
    · refine meets_few a1 a2 n1 n2 k1 k2 s w m1 m2 (unionR A B (uni A B)).2 (selR A B (filTo (fun p => decide (p ∈ B)) A n1)).2 (selR A B (filTo (fun p => !decide (p ∈ B)) A n1)).2 (joinR A B (filTo (fun p => decide (p ∈ B)) A n1) (uni A B)).2 (resR A (filTo (resP s) A n1)).2
        (unionR A B (uni A B)).1 (selR A B (filTo (fun p => decide (p ∈ B)) A n1)).1 (selR A B (filTo (fun p => !decide (p ∈ B)) A n1)).1 (joinR A B (filTo (fun p => decide (p ∈ B)) A n1) (uni A B)).1 (resR A (filTo (resP s) A n1)).1 ?_ (selR_small _ _ _ (filTo_small _ _ _ m1)) (selR_small _ _ _ (filTo_small _ _ _ m1)) ?_ ?_
        (fun w1 hb => union_in a1 a2 n1 n2 k1 k2 b1 o1 b2 o2 A B w1 (i1.below hb) (i2.below hb) (by omega) (by omega)) (fun w1 hb => runion_in a1 a2 n1 n2 k1 k2 b1 o1 b2 o2 A B w1 (i1.below hb) (i2.below hb) (by omega) (by omega)) (fun w1 hb => meet_in a1 a2 n1 n2 k1 k2 b1 o1 b2 o2 A B w1 (i1.below hb) (i2.below hb) (by omega) (by omega)) (fun w1 hb => rmeet_in a1 a2 n1 n2 k1 k2 b1 o1 b2 o2 A B w1 (i1.below hb) (i2.below hb) (by omega) (by omega)) (fun w1 hb => without_in a1 a2 n1 n2 k1 k2 b1 o1 b2 o2 A B w1 (i1.below hb) (i2.below hb) (by omega) (by omega)) (fun w1 hb => rwithout_in a1 a2 n1 n2 k1 k2 b1 o1 b2 o2 A B w1 (i1.below hb) (i2.below hb) (by omega) (by omega)) (fun w1 hb => join_in a1 a2 n1 n2 k1 k2 b1 o1 b2 o2 A B w1 (i1.below hb) (i2.below hb) (by omega) (by omega)) (fun w1 hb => rjoin_in a1 a2 n1 n2 k1 k2 b1 o1 b2 o2 A B w1 (i1.below hb) (i2.below hb) (by omega) (by omega))
        (fun w1 hb => restrict_in a1 n1 k1 b1 o1 A s w1 (i1.below hb) (by omega)) (fun w1 hb => rrestrict_in a1 n1 k1 b1 o1 A s w1 (i1.below hb) (by omega))
      · unfold unionR
        split
        · simp
        · exact capR_small _
      · unfold joinR
        split
        · simp
        · split
          · simp
          · exact capR_small _
      · unfold resR
        split
        · simp
        · exact filTo_small _ _ _ m1
    · exact meets_many2 a1 a2 n1 n2 k1 k2 s w m1 m2
  · exact meets_many1 a1 a2 n1 n2 k1 k2 s w m1
end Go.Proofs.Ytjggeombkbianaa.Sx
