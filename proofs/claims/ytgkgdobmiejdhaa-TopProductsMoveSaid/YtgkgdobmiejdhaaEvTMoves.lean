/-
  TopProductsMove answers true.
-/
import Derived.Test.YtgkgdobmiejdhaaEvTGraphs
import Derived.Test.YtgkgdobmiejdhaaEvTMath
import Derived.Test.YtgkgdobmiejdhaaEvTSet
import Derived.Test.YtgkgdobmiejdhaaEvTGInv
import Derived.Test.YtgkgdobmiejdhaaEvTOrdered
namespace Go.Proofs.Ytgkgdobmiejdhaa.Graph
open Go Go.RowKit Go.Graph Go.Law
open Go.Proofs.Ytgkgdobmiejdhaa.Col

open Go.Proofs.Ytgkgdobmiejdhaa.Perm (check_ints rcheck_ints inv_ints VecPost Quiet set_ints)
set_option maxRecDepth 100000 in
set_option maxHeartbeats 2000000 in
theorem moves_no (n r0 r1 r2 r3 r4 m s0 s1 s2 s3 s4 : Int) (v : Value) (hg : ∀ (w : World) (B : Nat), Own w B 24 [.int .i64 n, .int .i64 r0, .int .i64 r1, .int .i64 r2, .int .i64 r3, .int .i64 r4, .int .i64 m, .int .i64 s0, .int .i64 s1, .int .i64 s2, .int .i64 s3, .int .i64 s4] → Calls Try.prog 6 #[.slice (some ⟨B, 0, none⟩) 2 2] w fun e w' => e = .returned (.bool false) ∧ Below w.heap.size w w') (w : World) :
    Calls Try.prog 4 #[.agg #[.int .i64 n, .int .i64 r0, .int .i64 r1, .int .i64 r2, .int .i64 r3, .int .i64 r4], .agg #[.int .i64 m, .int .i64 s0, .int .i64 s1, .int .i64 s2, .int .i64 s3, .int .i64 s4], v] w fun e w' => e = .returned (.bool true) ∧ Below w.heap.size w w' := by
  have HG := Lib.hid hg
  clear hg
  have T00 := Lib.hid ((below_alloc w (.cells #[.int .i64 n, .int .i64 r0, .int .i64 r1, .int .i64 r2, .int .i64 r3, .int .i64 r4] 24)).alloc (by rw [size_alloc]; omega) (.cells #[.int .i64 m, .int .i64 s0, .int .i64 s1, .int .i64 s2, .int .i64 s3, .int .i64 s4] 24))
  have Ra_ := Lib.hid (row_alloc (row_new w n r0 r1 r2 r3 r4) (.cells #[.int .i64 m, .int .i64 s0, .int .i64 s1, .int .i64 s2, .int .i64 s3, .int .i64 s4] 24))
  have Rb_ := Lib.hid (row_new (w.alloc (.cells #[.int .i64 n, .int .i64 r0, .int .i64 r1, .int .i64 r2, .int .i64 r3, .int .i64 r4] 24)) m s0 s1 s2 s3 s4)
  rw [size_alloc] at Rb_
  go_enter Try.func4, Try.ntmps4
  go_wp2_with first
    | (go_at_call 5; refine (Go.Proofs.Ytgkgdobmiejdhaa.Ev.awake _).mono ?_; rintro e w0 ⟨rfl, hb0⟩; have T0 := Lib.hid (T00.out.trans (bel_le hb0 T00.out.size)); have Ra0 := Lib.hid (row_below Ra_.out hb0); obtain ⟨ap0, ap1, ap2, ap3, ap4, ap5⟩ := Ra0.out; have Rb0 := Lib.hid (row_below Rb_.out hb0); obtain ⟨bp0, bp1, bp2, bp3, bp4, bp5⟩ := Rb0.out; clear hb0)
    | (go_at_call 6; refine (HG.out _ _ (own_new w0 [.int .i64 n, .int .i64 r0, .int .i64 r1, .int .i64 r2, .int .i64 r3, .int .i64 r4, .int .i64 m, .int .i64 s0, .int .i64 s1, .int .i64 s2, .int .i64 s3, .int .i64 s4] 24)).mono ?_; rintro e w00 ⟨rfl, hb00⟩; have T1 := Lib.hid ((T0.out.alloc T0.out.size (.cells #[.int .i64 n, .int .i64 r0, .int .i64 r1, .int .i64 r2, .int .i64 r3, .int .i64 r4, .int .i64 m, .int .i64 s0, .int .i64 s1, .int .i64 s2, .int .i64 s3, .int .i64 s4] 24)).trans (bel_le hb00 (by rw [size_alloc]; exact Nat.le_succ_of_le T0.out.size))); clear hb00)
  go_ret
  exact ⟨rfl, T1.out⟩
set_option maxRecDepth 100000 in
set_option maxHeartbeats 2000000 in
theorem moves_len {n : Nat} {a b : Nat → Nat} (hg : ∀ (w : World) (B : Nat), Own w B 24 [.int .i64 n, .int .i64 (a 0), .int .i64 (a 1), .int .i64 (a 2), .int .i64 (a 3), .int .i64 (a 4), .int .i64 n, .int .i64 (b 0), .int .i64 (b 1), .int .i64 (b 2), .int .i64 (b 3), .int .i64 (b 4)] → Calls Try.prog 6 #[.slice (some ⟨B, 0, none⟩) 2 2] w fun e w' => e = .returned (.bool true) ∧ Below w.heap.size w w') (p : Option Addr) (cap : Nat) (len : Nat) (zs : List Int) (hne : len ≠ n) (w : World) (hi : IntsAt w .i64 (.slice p len cap) zs) :
    Calls Try.prog 4 #[.agg #[.int .i64 n, .int .i64 (a 0), .int .i64 (a 1), .int .i64 (a 2), .int .i64 (a 3), .int .i64 (a 4)], .agg #[.int .i64 n, .int .i64 (b 0), .int .i64 (b 1), .int .i64 (b 2), .int .i64 (b 3), .int .i64 (b 4)], .slice p len cap] w fun e w' => e = .returned (.bool true) ∧ Below w.heap.size w w' := by
  have HG := Lib.hid hg
  clear hg
  have e1 : ((len : Int) != (n : Int)) = true := bne_iff_ne.2 (by omega)
  clear hne
  have T00 := Lib.hid ((below_alloc w (.cells #[.int .i64 n, .int .i64 (a 0), .int .i64 (a 1), .int .i64 (a 2), .int .i64 (a 3), .int .i64 (a 4)] 24)).alloc (by rw [size_alloc]; omega) (.cells #[.int .i64 n, .int .i64 (b 0), .int .i64 (b 1), .int .i64 (b 2), .int .i64 (b 3), .int .i64 (b 4)] 24))
  have Ra_ := Lib.hid (row_alloc (row_new w n (a 0) (a 1) (a 2) (a 3) (a 4)) (.cells #[.int .i64 n, .int .i64 (b 0), .int .i64 (b 1), .int .i64 (b 2), .int .i64 (b 3), .int .i64 (b 4)] 24))
  have Rb_ := Lib.hid (row_new (w.alloc (.cells #[.int .i64 n, .int .i64 (a 0), .int .i64 (a 1), .int .i64 (a 2), .int .i64 (a 3), .int .i64 (a 4)] 24)) n (b 0) (b 1) (b 2) (b 3) (b 4))
  rw [size_alloc] at Rb_
  have I_ := Lib.hid (hi.below T00.out)
  clear hi
  go_enter Try.func4, Try.ntmps4
  go_wp2_with first
    | (go_at_call 5; refine (Go.Proofs.Ytgkgdobmiejdhaa.Ev.awake _).mono ?_; rintro e w0 ⟨rfl, hb0⟩; have T0 := Lib.hid (T00.out.trans (bel_le hb0 T00.out.size)); have Ra0 := Lib.hid (row_below Ra_.out hb0); obtain ⟨ap0, ap1, ap2, ap3, ap4, ap5⟩ := Ra0.out; have Rb0 := Lib.hid (row_below Rb_.out hb0); obtain ⟨bp0, bp1, bp2, bp3, bp4, bp5⟩ := Rb0.out; have Iz := Lib.hid (I_.out.below hb0); clear hb0)
    | (go_at_call 6; refine (HG.out _ _ (own_new w0 [.int .i64 n, .int .i64 (a 0), .int .i64 (a 1), .int .i64 (a 2), .int .i64 (a 3), .int .i64 (a 4), .int .i64 n, .int .i64 (b 0), .int .i64 (b 1), .int .i64 (b 2), .int .i64 (b 3), .int .i64 (b 4)] 24)).mono ?_; rintro e w00 ⟨rfl, hb00⟩; have TA := Lib.hid ((T0.out.alloc T0.out.size (.cells #[.int .i64 n, .int .i64 (a 0), .int .i64 (a 1), .int .i64 (a 2), .int .i64 (a 3), .int .i64 (a 4), .int .i64 n, .int .i64 (b 0), .int .i64 (b 1), .int .i64 (b 2), .int .i64 (b 3), .int .i64 (b 4)] 24)).trans (bel_le hb00 (by rw [size_alloc]; exact Nat.le_succ_of_le T0.out.size))); have RaA := Lib.hid (row_below (row_alloc Ra0.out (.cells #[.int .i64 n, .int .i64 (a 0), .int .i64 (a 1), .int .i64 (a 2), .int .i64 (a 3), .int .i64 (a 4), .int .i64 n, .int .i64 (b 0), .int .i64 (b 1), .int .i64 (b 2), .int .i64 (b 3), .int .i64 (b 4)] 24)) hb00); have RbA := Lib.hid (row_below (row_alloc Rb0.out (.cells #[.int .i64 n, .int .i64 (a 0), .int .i64 (a 1), .int .i64 (a 2), .int .i64 (a 3), .int .i64 (a 4), .int .i64 n, .int .i64 (b 0), .int .i64 (b 1), .int .i64 (b 2), .int .i64 (b 3), .int .i64 (b 4)] 24)) hb00); have IA := Lib.hid ((ints_alloc Iz.out (.cells #[.int .i64 n, .int .i64 (a 0), .int .i64 (a 1), .int .i64 (a 2), .int .i64 (a 3), .int .i64 (a 4), .int .i64 n, .int .i64 (b 0), .int .i64 (b 1), .int .i64 (b 2), .int .i64 (b 3), .int .i64 (b 4)] 24)).below hb00); obtain ⟨aA0, aA1, aA2, aA3, aA4, aA5⟩ := RaA.out; clear hb00)
  all_goals go_ret
  all_goals exact ⟨rfl, TA.out⟩
set_option maxRecDepth 100000 in
set_option maxHeartbeats 2000000 in
theorem moves_check {n : Nat} {a b : Nat → Nat} (hg : ∀ (w : World) (B : Nat), Own w B 24 [.int .i64 n, .int .i64 (a 0), .int .i64 (a 1), .int .i64 (a 2), .int .i64 (a 3), .int .i64 (a 4), .int .i64 n, .int .i64 (b 0), .int .i64 (b 1), .int .i64 (b 2), .int .i64 (b 3), .int .i64 (b 4)] → Calls Try.prog 6 #[.slice (some ⟨B, 0, none⟩) 2 2] w fun e w' => e = .returned (.bool true) ∧ Below w.heap.size w w') (p : Option Addr) (cap : Nat) (zs : List Int) (hne : Go.Perm.check zs ≠ 0) (w : World) (hi : IntsAt w .i64 (.slice p n cap) zs) :
    Calls Try.prog 4 #[.agg #[.int .i64 n, .int .i64 (a 0), .int .i64 (a 1), .int .i64 (a 2), .int .i64 (a 3), .int .i64 (a 4)], .agg #[.int .i64 n, .int .i64 (b 0), .int .i64 (b 1), .int .i64 (b 2), .int .i64 (b 3), .int .i64 (b 4)], .slice p n cap] w fun e w' => e = .returned (.bool true) ∧ Below w.heap.size w w' := by
  have HG := Lib.hid hg
  clear hg
  have e1 : (Go.Perm.check zs != 0) = true := by simpa using hne
  clear hne
  have HK := Lib.hid (fun (w : World) (h : IntsAt w .i64 (.slice p n cap) zs) => rcheck_ints h)
  generalize Go.Perm.check zs = c at *
  have T00 := Lib.hid ((below_alloc w (.cells #[.int .i64 n, .int .i64 (a 0), .int .i64 (a 1), .int .i64 (a 2), .int .i64 (a 3), .int .i64 (a 4)] 24)).alloc (by rw [size_alloc]; omega) (.cells #[.int .i64 n, .int .i64 (b 0), .int .i64 (b 1), .int .i64 (b 2), .int .i64 (b 3), .int .i64 (b 4)] 24))
  have Ra_ := Lib.hid (row_alloc (row_new w n (a 0) (a 1) (a 2) (a 3) (a 4)) (.cells #[.int .i64 n, .int .i64 (b 0), .int .i64 (b 1), .int .i64 (b 2), .int .i64 (b 3), .int .i64 (b 4)] 24))
  have Rb_ := Lib.hid (row_new (w.alloc (.cells #[.int .i64 n, .int .i64 (a 0), .int .i64 (a 1), .int .i64 (a 2), .int .i64 (a 3), .int .i64 (a 4)] 24)) n (b 0) (b 1) (b 2) (b 3) (b 4))
  rw [size_alloc] at Rb_
  have I_ := Lib.hid (hi.below T00.out)
  clear hi
  go_enter Try.func4, Try.ntmps4
  go_wp2_with first
    | (go_at_call 5; refine (Go.Proofs.Ytgkgdobmiejdhaa.Ev.awake _).mono ?_; rintro e w0 ⟨rfl, hb0⟩; have T0 := Lib.hid (T00.out.trans (bel_le hb0 T00.out.size)); have Ra0 := Lib.hid (row_below Ra_.out hb0); obtain ⟨ap0, ap1, ap2, ap3, ap4, ap5⟩ := Ra0.out; have Rb0 := Lib.hid (row_below Rb_.out hb0); obtain ⟨bp0, bp1, bp2, bp3, bp4, bp5⟩ := Rb0.out; have Iz := Lib.hid (I_.out.below hb0); clear hb0)
    | (go_at_call 9; refine (HK.out _ IA.out).mono ?_; rintro e w02 ⟨rfl, mm, hw⟩; have hbk : Below w00.heap.size w00 w02 := hw ▸ below_drewN (Below.refl _ _) mm; clear hw mm; have TT0 := Lib.hid (TA.out.trans (bel_le hbk TA.out.size)); clear hbk)
    | (go_at_call 6; refine (HG.out _ _ (own_new w0 [.int .i64 n, .int .i64 (a 0), .int .i64 (a 1), .int .i64 (a 2), .int .i64 (a 3), .int .i64 (a 4), .int .i64 n, .int .i64 (b 0), .int .i64 (b 1), .int .i64 (b 2), .int .i64 (b 3), .int .i64 (b 4)] 24)).mono ?_; rintro e w00 ⟨rfl, hb00⟩; have TA := Lib.hid ((T0.out.alloc T0.out.size (.cells #[.int .i64 n, .int .i64 (a 0), .int .i64 (a 1), .int .i64 (a 2), .int .i64 (a 3), .int .i64 (a 4), .int .i64 n, .int .i64 (b 0), .int .i64 (b 1), .int .i64 (b 2), .int .i64 (b 3), .int .i64 (b 4)] 24)).trans (bel_le hb00 (by rw [size_alloc]; exact Nat.le_succ_of_le T0.out.size))); have RaA := Lib.hid (row_below (row_alloc Ra0.out (.cells #[.int .i64 n, .int .i64 (a 0), .int .i64 (a 1), .int .i64 (a 2), .int .i64 (a 3), .int .i64 (a 4), .int .i64 n, .int .i64 (b 0), .int .i64 (b 1), .int .i64 (b 2), .int .i64 (b 3), .int .i64 (b 4)] 24)) hb00); have RbA := Lib.hid (row_below (row_alloc Rb0.out (.cells #[.int .i64 n, .int .i64 (a 0), .int .i64 (a 1), .int .i64 (a 2), .int .i64 (a 3), .int .i64 (a 4), .int .i64 n, .int .i64 (b 0), .int .i64 (b 1), .int .i64 (b 2), .int .i64 (b 3), .int .i64 (b 4)] 24)) hb00); have IA := Lib.hid ((ints_alloc Iz.out (.cells #[.int .i64 n, .int .i64 (a 0), .int .i64 (a 1), .int .i64 (a 2), .int .i64 (a 3), .int .i64 (a 4), .int .i64 n, .int .i64 (b 0), .int .i64 (b 1), .int .i64 (b 2), .int .i64 (b 3), .int .i64 (b 4)] 24)).below hb00); obtain ⟨aA0, aA1, aA2, aA3, aA4, aA5⟩ := RaA.out; clear hb00)
  all_goals go_ret
  all_goals exact ⟨rfl, TT0.out⟩
set_option maxRecDepth 100000 in
set_option maxHeartbeats 8000000 in
theorem moves_ok {n k k2 : Nat} {a b ab ba L s u V bb x y M : Nat → Nat} (zs ts : List Int) (hok : Go.Perm.check zs = 0) (c1 : Comp n a b ab) (c2 : Comp n b a ba) (c3 : Comp n ab a L) (c4 : Comp n a ba L) (c5 : Still n s) (c6 : Comp n s a a) (c7 : Unite n a b u) (c8 : Comp n u b V) (c9 : Comp n b b bb) (c10 : Unite n ab bb V) (c11 : Rename n a zs x) (c12 : Rename n b zs y) (c13 : Comp n x y M) (c14 : Rename n ab zs M) (c15 : ∀ (w : World) (v : Value), IntsAt w .i64 v zs → Calls Try.prog 13 #[v] w (VecPost ts 0 w)) (c16 : Rename n x ts a) (c17 : Kern n a k) (c18 : Kern n x k2) (c19 : Image zs k k2)
    (hg : ∀ (w : World) (B : Nat), Own w B 24 [.int .i64 n, .int .i64 (a 0), .int .i64 (a 1), .int .i64 (a 2), .int .i64 (a 3), .int .i64 (a 4), .int .i64 n, .int .i64 (b 0), .int .i64 (b 1), .int .i64 (b 2), .int .i64 (b 3), .int .i64 (b 4)] → Calls Try.prog 6 #[.slice (some ⟨B, 0, none⟩) 2 2] w fun e w' => e = .returned (.bool true) ∧ Below w.heap.size w w') (p : Option Addr) (cap : Nat) (w : World) (hi : IntsAt w .i64 (.slice p n cap) zs) :
    Calls Try.prog 4 #[.agg #[.int .i64 n, .int .i64 (a 0), .int .i64 (a 1), .int .i64 (a 2), .int .i64 (a 3), .int .i64 (a 4)], .agg #[.int .i64 n, .int .i64 (b 0), .int .i64 (b 1), .int .i64 (b 2), .int .i64 (b 3), .int .i64 (b 4)], .slice p n cap] w fun e w' => e = .returned (.bool true) ∧ Below w.heap.size w w' := by
  have HG := Lib.hid hg
  clear hg
  have HK := Lib.hid (fun (w : World) (h : IntsAt w .i64 (.slice p n cap) zs) => (by have := rcheck_ints h; rw [hok] at this; exact this : Calls Try.prog 9 #[.slice p n cap] w (Quiet (.int .i64 0) w)))
  clear hok
  unfold Comp at c1
  have C1 := Lib.hid c1
  clear c1
  unfold Comp at c2
  have C2 := Lib.hid c2
  clear c2
  unfold Comp at c3
  have C3 := Lib.hid c3
  clear c3
  unfold Comp at c4
  have C4 := Lib.hid c4
  clear c4
  unfold Still at c5
  have C5 := Lib.hid c5
  clear c5
  unfold Comp at c6
  have C6 := Lib.hid c6
  clear c6
  unfold Unite at c7
  have C7 := Lib.hid c7
  clear c7
  unfold Comp at c8
  have C8 := Lib.hid c8
  clear c8
  unfold Comp at c9
  have C9 := Lib.hid c9
  clear c9
  unfold Unite at c10
  have C10 := Lib.hid c10
  clear c10
  unfold Rename at c11
  have C11 := Lib.hid c11
  clear c11
  unfold Rename at c12
  have C12 := Lib.hid c12
  clear c12
  unfold Comp at c13
  have C13 := Lib.hid c13
  clear c13
  unfold Rename at c14
  have C14 := Lib.hid c14
  clear c14
  have C15 := Lib.hid c15
  clear c15
  unfold Rename at c16
  have C16 := Lib.hid c16
  clear c16
  unfold Kern at c17
  have C17 := Lib.hid c17
  clear c17
  unfold Kern at c18
  have C18 := Lib.hid c18
  clear c18
  unfold Image at c19
  have C19 := Lib.hid c19
  clear c19
  have hea := eq_self (a 0) (a 1) (a 2) (a 3) (a 4)
  have heL := eq_self (L 0) (L 1) (L 2) (L 3) (L 4)
  have heV := eq_self (V 0) (V 1) (V 2) (V 3) (V 4)
  have heM := eq_self (M 0) (M 1) (M 2) (M 3) (M 4)
  have T00 := Lib.hid ((below_alloc w (.cells #[.int .i64 n, .int .i64 (a 0), .int .i64 (a 1), .int .i64 (a 2), .int .i64 (a 3), .int .i64 (a 4)] 24)).alloc (by rw [size_alloc]; omega) (.cells #[.int .i64 n, .int .i64 (b 0), .int .i64 (b 1), .int .i64 (b 2), .int .i64 (b 3), .int .i64 (b 4)] 24))
  have Ra_ := Lib.hid (row_alloc (row_new w n (a 0) (a 1) (a 2) (a 3) (a 4)) (.cells #[.int .i64 n, .int .i64 (b 0), .int .i64 (b 1), .int .i64 (b 2), .int .i64 (b 3), .int .i64 (b 4)] 24))
  have Rb_ := Lib.hid (row_new (w.alloc (.cells #[.int .i64 n, .int .i64 (a 0), .int .i64 (a 1), .int .i64 (a 2), .int .i64 (a 3), .int .i64 (a 4)] 24)) n (b 0) (b 1) (b 2) (b 3) (b 4))
  rw [size_alloc] at Rb_
  have I_ := Lib.hid (hi.below T00.out)
  clear hi
  go_enter Try.func4, Try.ntmps4
  go_wp2_with first
    | (go_at_call 5; refine (Go.Proofs.Ytgkgdobmiejdhaa.Ev.awake _).mono ?_; rintro e w0 ⟨rfl, hb0⟩; have T0 := Lib.hid (T00.out.trans (bel_le hb0 T00.out.size)); have Ra0 := Lib.hid (row_below Ra_.out hb0); obtain ⟨ap0, ap1, ap2, ap3, ap4, ap5⟩ := Ra0.out; have Rb0 := Lib.hid (row_below Rb_.out hb0); obtain ⟨bp0, bp1, bp2, bp3, bp4, bp5⟩ := Rb0.out; have Iz := Lib.hid (I_.out.below hb0); clear hb0)
    | (go_at_call 15; refine (C19.out _ _ I18.out).mono ?_; rintro e w19 ⟨rfl, rfl⟩)
    | (go_at_call 14; (with_reducible refine (C18.out _).mono ?_); rintro e w18 ⟨rfl, hb18⟩; have T18 := Lib.hid (T17.out.trans (bel_le hb18 T17.out.size)); have I18 := Lib.hid (I17.out.below hb18); have Ra_18 := Lib.hid (row_below Ra_17.out hb18); have Ragain_18 := Lib.hid (row_below Ragain_17.out hb18); obtain ⟨a_18q0, a_18q1, a_18q2, a_18q3, a_18q4, a_18q5⟩ := Ra_18.out; obtain ⟨again_18q0, again_18q1, again_18q2, again_18q3, again_18q4, again_18q5⟩ := Ragain_18.out; clear hb18)
    | (go_at_call 14; (with_reducible refine (C17.out _).mono ?_); rintro e w17 ⟨rfl, hb17⟩; have T17 := Lib.hid (T16.out.trans (bel_le hb17 T16.out.size)); have I17 := Lib.hid (I16.out.below hb17); have Ra_17 := Lib.hid (row_below Ra_16.out hb17); have Rx_17 := Lib.hid (row_below Rx_16.out hb17); have Ragain_17 := Lib.hid (row_below Ragain_16.out hb17); obtain ⟨x_17q0, x_17q1, x_17q2, x_17q3, x_17q4, x_17q5⟩ := Rx_17.out; clear hb17)
    | (go_at_call 12; (with_reducible refine (C16.out _ _ J15.out).mono ?_); rintro e w16 ⟨rfl, hb16⟩; have T16 := Lib.hid ((T15.out.trans (bel_le hb16 T15.out.size)).alloc (by have := T15.out.size; have := hb16.size; omega) (.cells #[.int .i64 n, .int .i64 (a 0), .int .i64 (a 1), .int .i64 (a 2), .int .i64 (a 3), .int .i64 (a 4)] 24)); have I16 := Lib.hid (ints_alloc (I15.out.below hb16) (.cells #[.int .i64 n, .int .i64 (a 0), .int .i64 (a 1), .int .i64 (a 2), .int .i64 (a 3), .int .i64 (a 4)] 24)); have Ra_16 := Lib.hid (row_alloc (row_below Ra_15.out hb16) (.cells #[.int .i64 n, .int .i64 (a 0), .int .i64 (a 1), .int .i64 (a 2), .int .i64 (a 3), .int .i64 (a 4)] 24)); have Rx_16 := Lib.hid (row_alloc (row_below Rx_15.out hb16) (.cells #[.int .i64 n, .int .i64 (a 0), .int .i64 (a 1), .int .i64 (a 2), .int .i64 (a 3), .int .i64 (a 4)] 24)); have Ragain_16 := Lib.hid (row_new w16 n (a 0) (a 1) (a 2) (a 3) (a 4)); obtain ⟨a_16q0, a_16q1, a_16q2, a_16q3, a_16q4, a_16q5⟩ := Ra_16.out; clear hb16)
    | (go_at_call 13; refine (C15.out _ _ I14.out).mono ?_; rintro e w15 ⟨vi, rfl, hb15, hI15⟩; have T15 := Lib.hid (T14.out.trans (bel_le hb15 T14.out.size)); have J15 := Lib.hid hI15; have I15 := Lib.hid (I14.out.below hb15); have Ra_15 := Lib.hid (row_below Ra_14.out hb15); have Rx_15 := Lib.hid (row_below Rx_14.out hb15); have Rxy_15 := Lib.hid (row_below Rxy_14.out hb15); have Rmoved_15 := Lib.hid (row_below Rmoved_14.out hb15); obtain ⟨x_15q0, x_15q1, x_15q2, x_15q3, x_15q4, x_15q5⟩ := Rx_15.out; obtain ⟨xy_15q0, xy_15q1, xy_15q2, xy_15q3, xy_15q4, xy_15q5⟩ := Rxy_15.out; obtain ⟨moved_15q0, moved_15q1, moved_15q2, moved_15q3, moved_15q4, moved_15q5⟩ := Rmoved_15.out; clear hb15 hI15)
    | (go_at_call 12; (with_reducible refine (C14.out _ _ I13.out).mono ?_); rintro e w14 ⟨rfl, hb14⟩; have T14 := Lib.hid ((T13.out.trans (bel_le hb14 T13.out.size)).alloc (by have := T13.out.size; have := hb14.size; omega) (.cells #[.int .i64 n, .int .i64 (M 0), .int .i64 (M 1), .int .i64 (M 2), .int .i64 (M 3), .int .i64 (M 4)] 24)); have I14 := Lib.hid (ints_alloc (I13.out.below hb14) (.cells #[.int .i64 n, .int .i64 (M 0), .int .i64 (M 1), .int .i64 (M 2), .int .i64 (M 3), .int .i64 (M 4)] 24)); have Ra_14 := Lib.hid (row_alloc (row_below Ra_13.out hb14) (.cells #[.int .i64 n, .int .i64 (M 0), .int .i64 (M 1), .int .i64 (M 2), .int .i64 (M 3), .int .i64 (M 4)] 24)); have Rx_14 := Lib.hid (row_alloc (row_below Rx_13.out hb14) (.cells #[.int .i64 n, .int .i64 (M 0), .int .i64 (M 1), .int .i64 (M 2), .int .i64 (M 3), .int .i64 (M 4)] 24)); have Rxy_14 := Lib.hid (row_alloc (row_below Rxy_13.out hb14) (.cells #[.int .i64 n, .int .i64 (M 0), .int .i64 (M 1), .int .i64 (M 2), .int .i64 (M 3), .int .i64 (M 4)] 24)); have Rmoved_14 := Lib.hid (row_new w14 n (M 0) (M 1) (M 2) (M 3) (M 4)); clear hb14)
    | (go_at_call 10; (with_reducible refine (C13.out _).mono ?_); rintro e w13 ⟨rfl, hb13⟩; have T13 := Lib.hid ((T12.out.trans (bel_le hb13 T12.out.size)).alloc (by have := T12.out.size; have := hb13.size; omega) (.cells #[.int .i64 n, .int .i64 (M 0), .int .i64 (M 1), .int .i64 (M 2), .int .i64 (M 3), .int .i64 (M 4)] 24)); have I13 := Lib.hid (ints_alloc (I12.out.below hb13) (.cells #[.int .i64 n, .int .i64 (M 0), .int .i64 (M 1), .int .i64 (M 2), .int .i64 (M 3), .int .i64 (M 4)] 24)); have Ra_13 := Lib.hid (row_alloc (row_below Ra_12.out hb13) (.cells #[.int .i64 n, .int .i64 (M 0), .int .i64 (M 1), .int .i64 (M 2), .int .i64 (M 3), .int .i64 (M 4)] 24)); have Rab_13 := Lib.hid (row_alloc (row_below Rab_12.out hb13) (.cells #[.int .i64 n, .int .i64 (M 0), .int .i64 (M 1), .int .i64 (M 2), .int .i64 (M 3), .int .i64 (M 4)] 24)); have Rx_13 := Lib.hid (row_alloc (row_below Rx_12.out hb13) (.cells #[.int .i64 n, .int .i64 (M 0), .int .i64 (M 1), .int .i64 (M 2), .int .i64 (M 3), .int .i64 (M 4)] 24)); have Rxy_13 := Lib.hid (row_new w13 n (M 0) (M 1) (M 2) (M 3) (M 4)); obtain ⟨ab_13q0, ab_13q1, ab_13q2, ab_13q3, ab_13q4, ab_13q5⟩ := Rab_13.out; clear hb13)
    | (go_at_call 12; (with_reducible refine (C12.out _ _ I11.out).mono ?_); rintro e w12 ⟨rfl, hb12⟩; have T12 := Lib.hid ((T11.out.trans (bel_le hb12 T11.out.size)).alloc (by have := T11.out.size; have := hb12.size; omega) (.cells #[.int .i64 n, .int .i64 (y 0), .int .i64 (y 1), .int .i64 (y 2), .int .i64 (y 3), .int .i64 (y 4)] 24)); have I12 := Lib.hid (ints_alloc (I11.out.below hb12) (.cells #[.int .i64 n, .int .i64 (y 0), .int .i64 (y 1), .int .i64 (y 2), .int .i64 (y 3), .int .i64 (y 4)] 24)); have Ra_12 := Lib.hid (row_alloc (row_below Ra_11.out hb12) (.cells #[.int .i64 n, .int .i64 (y 0), .int .i64 (y 1), .int .i64 (y 2), .int .i64 (y 3), .int .i64 (y 4)] 24)); have Rab_12 := Lib.hid (row_alloc (row_below Rab_11.out hb12) (.cells #[.int .i64 n, .int .i64 (y 0), .int .i64 (y 1), .int .i64 (y 2), .int .i64 (y 3), .int .i64 (y 4)] 24)); have Rx_12 := Lib.hid (row_alloc (row_below Rx_11.out hb12) (.cells #[.int .i64 n, .int .i64 (y 0), .int .i64 (y 1), .int .i64 (y 2), .int .i64 (y 3), .int .i64 (y 4)] 24)); have Ry_12 := Lib.hid (row_new w12 n (y 0) (y 1) (y 2) (y 3) (y 4)); obtain ⟨x_12q0, x_12q1, x_12q2, x_12q3, x_12q4, x_12q5⟩ := Rx_12.out; obtain ⟨y_12q0, y_12q1, y_12q2, y_12q3, y_12q4, y_12q5⟩ := Ry_12.out; clear hb12)
    | (go_at_call 12; (with_reducible refine (C11.out _ _ I10.out).mono ?_); rintro e w11 ⟨rfl, hb11⟩; have T11 := Lib.hid ((T10.out.trans (bel_le hb11 T10.out.size)).alloc (by have := T10.out.size; have := hb11.size; omega) (.cells #[.int .i64 n, .int .i64 (x 0), .int .i64 (x 1), .int .i64 (x 2), .int .i64 (x 3), .int .i64 (x 4)] 24)); have I11 := Lib.hid (ints_alloc (I10.out.below hb11) (.cells #[.int .i64 n, .int .i64 (x 0), .int .i64 (x 1), .int .i64 (x 2), .int .i64 (x 3), .int .i64 (x 4)] 24)); have Ra_11 := Lib.hid (row_alloc (row_below Ra_10.out hb11) (.cells #[.int .i64 n, .int .i64 (x 0), .int .i64 (x 1), .int .i64 (x 2), .int .i64 (x 3), .int .i64 (x 4)] 24)); have Rb_11 := Lib.hid (row_alloc (row_below Rb_10.out hb11) (.cells #[.int .i64 n, .int .i64 (x 0), .int .i64 (x 1), .int .i64 (x 2), .int .i64 (x 3), .int .i64 (x 4)] 24)); have Rab_11 := Lib.hid (row_alloc (row_below Rab_10.out hb11) (.cells #[.int .i64 n, .int .i64 (x 0), .int .i64 (x 1), .int .i64 (x 2), .int .i64 (x 3), .int .i64 (x 4)] 24)); have Rx_11 := Lib.hid (row_new w11 n (x 0) (x 1) (x 2) (x 3) (x 4)); obtain ⟨b_11q0, b_11q1, b_11q2, b_11q3, b_11q4, b_11q5⟩ := Rb_11.out; clear hb11)
    | (go_at_call 7; (with_reducible refine (C10.out _).mono ?_); rintro e w10 ⟨rfl, hb10⟩; have T10 := Lib.hid ((T9.out.trans (bel_le hb10 T9.out.size)).alloc (by have := T9.out.size; have := hb10.size; omega) (.cells #[.int .i64 n, .int .i64 (V 0), .int .i64 (V 1), .int .i64 (V 2), .int .i64 (V 3), .int .i64 (V 4)] 24)); have I10 := Lib.hid (ints_alloc (I9.out.below hb10) (.cells #[.int .i64 n, .int .i64 (V 0), .int .i64 (V 1), .int .i64 (V 2), .int .i64 (V 3), .int .i64 (V 4)] 24)); have Ra_10 := Lib.hid (row_alloc (row_below Ra_9.out hb10) (.cells #[.int .i64 n, .int .i64 (V 0), .int .i64 (V 1), .int .i64 (V 2), .int .i64 (V 3), .int .i64 (V 4)] 24)); have Rb_10 := Lib.hid (row_alloc (row_below Rb_9.out hb10) (.cells #[.int .i64 n, .int .i64 (V 0), .int .i64 (V 1), .int .i64 (V 2), .int .i64 (V 3), .int .i64 (V 4)] 24)); have Rab_10 := Lib.hid (row_alloc (row_below Rab_9.out hb10) (.cells #[.int .i64 n, .int .i64 (V 0), .int .i64 (V 1), .int .i64 (V 2), .int .i64 (V 3), .int .i64 (V 4)] 24)); have Rwhole_10 := Lib.hid (row_alloc (row_below Rwhole_9.out hb10) (.cells #[.int .i64 n, .int .i64 (V 0), .int .i64 (V 1), .int .i64 (V 2), .int .i64 (V 3), .int .i64 (V 4)] 24)); have Rparts_10 := Lib.hid (row_new w10 n (V 0) (V 1) (V 2) (V 3) (V 4)); obtain ⟨a_10q0, a_10q1, a_10q2, a_10q3, a_10q4, a_10q5⟩ := Ra_10.out; obtain ⟨whole_10q0, whole_10q1, whole_10q2, whole_10q3, whole_10q4, whole_10q5⟩ := Rwhole_10.out; obtain ⟨parts_10q0, parts_10q1, parts_10q2, parts_10q3, parts_10q4, parts_10q5⟩ := Rparts_10.out; clear hb10)
    | (go_at_call 10; (with_reducible refine (C9.out _).mono ?_); rintro e w9 ⟨rfl, hb9⟩; have T9 := Lib.hid ((T8.out.trans (bel_le hb9 T8.out.size)).alloc (by have := T8.out.size; have := hb9.size; omega) (.cells #[.int .i64 n, .int .i64 (bb 0), .int .i64 (bb 1), .int .i64 (bb 2), .int .i64 (bb 3), .int .i64 (bb 4)] 24)); have I9 := Lib.hid (ints_alloc (I8.out.below hb9) (.cells #[.int .i64 n, .int .i64 (bb 0), .int .i64 (bb 1), .int .i64 (bb 2), .int .i64 (bb 3), .int .i64 (bb 4)] 24)); have Ra_9 := Lib.hid (row_alloc (row_below Ra_8.out hb9) (.cells #[.int .i64 n, .int .i64 (bb 0), .int .i64 (bb 1), .int .i64 (bb 2), .int .i64 (bb 3), .int .i64 (bb 4)] 24)); have Rb_9 := Lib.hid (row_alloc (row_below Rb_8.out hb9) (.cells #[.int .i64 n, .int .i64 (bb 0), .int .i64 (bb 1), .int .i64 (bb 2), .int .i64 (bb 3), .int .i64 (bb 4)] 24)); have Rab_9 := Lib.hid (row_alloc (row_below Rab_8.out hb9) (.cells #[.int .i64 n, .int .i64 (bb 0), .int .i64 (bb 1), .int .i64 (bb 2), .int .i64 (bb 3), .int .i64 (bb 4)] 24)); have Rwhole_9 := Lib.hid (row_alloc (row_below Rwhole_8.out hb9) (.cells #[.int .i64 n, .int .i64 (bb 0), .int .i64 (bb 1), .int .i64 (bb 2), .int .i64 (bb 3), .int .i64 (bb 4)] 24)); have Rbb_9 := Lib.hid (row_new w9 n (bb 0) (bb 1) (bb 2) (bb 3) (bb 4)); obtain ⟨ab_9q0, ab_9q1, ab_9q2, ab_9q3, ab_9q4, ab_9q5⟩ := Rab_9.out; obtain ⟨bb_9q0, bb_9q1, bb_9q2, bb_9q3, bb_9q4, bb_9q5⟩ := Rbb_9.out; clear hb9)
    | (go_at_call 10; (with_reducible refine (C8.out _).mono ?_); rintro e w8 ⟨rfl, hb8⟩; have T8 := Lib.hid ((T7.out.trans (bel_le hb8 T7.out.size)).alloc (by have := T7.out.size; have := hb8.size; omega) (.cells #[.int .i64 n, .int .i64 (V 0), .int .i64 (V 1), .int .i64 (V 2), .int .i64 (V 3), .int .i64 (V 4)] 24)); have I8 := Lib.hid (ints_alloc (I7.out.below hb8) (.cells #[.int .i64 n, .int .i64 (V 0), .int .i64 (V 1), .int .i64 (V 2), .int .i64 (V 3), .int .i64 (V 4)] 24)); have Ra_8 := Lib.hid (row_alloc (row_below Ra_7.out hb8) (.cells #[.int .i64 n, .int .i64 (V 0), .int .i64 (V 1), .int .i64 (V 2), .int .i64 (V 3), .int .i64 (V 4)] 24)); have Rb_8 := Lib.hid (row_alloc (row_below Rb_7.out hb8) (.cells #[.int .i64 n, .int .i64 (V 0), .int .i64 (V 1), .int .i64 (V 2), .int .i64 (V 3), .int .i64 (V 4)] 24)); have Rab_8 := Lib.hid (row_alloc (row_below Rab_7.out hb8) (.cells #[.int .i64 n, .int .i64 (V 0), .int .i64 (V 1), .int .i64 (V 2), .int .i64 (V 3), .int .i64 (V 4)] 24)); have Rwhole_8 := Lib.hid (row_new w8 n (V 0) (V 1) (V 2) (V 3) (V 4)); obtain ⟨b_8q0, b_8q1, b_8q2, b_8q3, b_8q4, b_8q5⟩ := Rb_8.out; clear hb8)
    | (go_at_call 7; (with_reducible refine (C7.out _).mono ?_); rintro e w7 ⟨rfl, hb7⟩; have T7 := Lib.hid ((T6.out.trans (bel_le hb7 T6.out.size)).alloc (by have := T6.out.size; have := hb7.size; omega) (.cells #[.int .i64 n, .int .i64 (u 0), .int .i64 (u 1), .int .i64 (u 2), .int .i64 (u 3), .int .i64 (u 4)] 24)); have I7 := Lib.hid (ints_alloc (I6.out.below hb7) (.cells #[.int .i64 n, .int .i64 (u 0), .int .i64 (u 1), .int .i64 (u 2), .int .i64 (u 3), .int .i64 (u 4)] 24)); have Ra_7 := Lib.hid (row_alloc (row_below Ra_6.out hb7) (.cells #[.int .i64 n, .int .i64 (u 0), .int .i64 (u 1), .int .i64 (u 2), .int .i64 (u 3), .int .i64 (u 4)] 24)); have Rb_7 := Lib.hid (row_alloc (row_below Rb_6.out hb7) (.cells #[.int .i64 n, .int .i64 (u 0), .int .i64 (u 1), .int .i64 (u 2), .int .i64 (u 3), .int .i64 (u 4)] 24)); have Rab_7 := Lib.hid (row_alloc (row_below Rab_6.out hb7) (.cells #[.int .i64 n, .int .i64 (u 0), .int .i64 (u 1), .int .i64 (u 2), .int .i64 (u 3), .int .i64 (u 4)] 24)); have Rsum_7 := Lib.hid (row_new w7 n (u 0) (u 1) (u 2) (u 3) (u 4)); obtain ⟨b_7q0, b_7q1, b_7q2, b_7q3, b_7q4, b_7q5⟩ := Rb_7.out; obtain ⟨sum_7q0, sum_7q1, sum_7q2, sum_7q3, sum_7q4, sum_7q5⟩ := Rsum_7.out; clear hb7)
    | (go_at_call 10; (with_reducible refine (C6.out _).mono ?_); rintro e w6 ⟨rfl, hb6⟩; have T6 := Lib.hid ((T5.out.trans (bel_le hb6 T5.out.size)).alloc (by have := T5.out.size; have := hb6.size; omega) (.cells #[.int .i64 n, .int .i64 (a 0), .int .i64 (a 1), .int .i64 (a 2), .int .i64 (a 3), .int .i64 (a 4)] 24)); have I6 := Lib.hid (ints_alloc (I5.out.below hb6) (.cells #[.int .i64 n, .int .i64 (a 0), .int .i64 (a 1), .int .i64 (a 2), .int .i64 (a 3), .int .i64 (a 4)] 24)); have Ra_6 := Lib.hid (row_alloc (row_below Ra_5.out hb6) (.cells #[.int .i64 n, .int .i64 (a 0), .int .i64 (a 1), .int .i64 (a 2), .int .i64 (a 3), .int .i64 (a 4)] 24)); have Rb_6 := Lib.hid (row_alloc (row_below Rb_5.out hb6) (.cells #[.int .i64 n, .int .i64 (a 0), .int .i64 (a 1), .int .i64 (a 2), .int .i64 (a 3), .int .i64 (a 4)] 24)); have Rab_6 := Lib.hid (row_alloc (row_below Rab_5.out hb6) (.cells #[.int .i64 n, .int .i64 (a 0), .int .i64 (a 1), .int .i64 (a 2), .int .i64 (a 3), .int .i64 (a 4)] 24)); have Rlft_6 := Lib.hid (row_alloc (row_below Rlft_5.out hb6) (.cells #[.int .i64 n, .int .i64 (a 0), .int .i64 (a 1), .int .i64 (a 2), .int .i64 (a 3), .int .i64 (a 4)] 24)); have Rrgt_6 := Lib.hid (row_alloc (row_below Rrgt_5.out hb6) (.cells #[.int .i64 n, .int .i64 (a 0), .int .i64 (a 1), .int .i64 (a 2), .int .i64 (a 3), .int .i64 (a 4)] 24)); have Rsame_6 := Lib.hid (row_new w6 n (a 0) (a 1) (a 2) (a 3) (a 4)); obtain ⟨a_6q0, a_6q1, a_6q2, a_6q3, a_6q4, a_6q5⟩ := Ra_6.out; obtain ⟨b_6q0, b_6q1, b_6q2, b_6q3, b_6q4, b_6q5⟩ := Rb_6.out; obtain ⟨lft_6q0, lft_6q1, lft_6q2, lft_6q3, lft_6q4, lft_6q5⟩ := Rlft_6.out; obtain ⟨rgt_6q0, rgt_6q1, rgt_6q2, rgt_6q3, rgt_6q4, rgt_6q5⟩ := Rrgt_6.out; obtain ⟨same_6q0, same_6q1, same_6q2, same_6q3, same_6q4, same_6q5⟩ := Rsame_6.out; clear hb6)
    | (go_at_call 11; (with_reducible refine (C5.out _).mono ?_); rintro e w5 ⟨rfl, hb5⟩; have T5 := Lib.hid ((T4.out.trans (bel_le hb5 T4.out.size)).alloc (by have := T4.out.size; have := hb5.size; omega) (.cells #[.int .i64 n, .int .i64 (s 0), .int .i64 (s 1), .int .i64 (s 2), .int .i64 (s 3), .int .i64 (s 4)] 24)); have I5 := Lib.hid (ints_alloc (I4.out.below hb5) (.cells #[.int .i64 n, .int .i64 (s 0), .int .i64 (s 1), .int .i64 (s 2), .int .i64 (s 3), .int .i64 (s 4)] 24)); have Ra_5 := Lib.hid (row_alloc (row_below Ra_4.out hb5) (.cells #[.int .i64 n, .int .i64 (s 0), .int .i64 (s 1), .int .i64 (s 2), .int .i64 (s 3), .int .i64 (s 4)] 24)); have Rb_5 := Lib.hid (row_alloc (row_below Rb_4.out hb5) (.cells #[.int .i64 n, .int .i64 (s 0), .int .i64 (s 1), .int .i64 (s 2), .int .i64 (s 3), .int .i64 (s 4)] 24)); have Rab_5 := Lib.hid (row_alloc (row_below Rab_4.out hb5) (.cells #[.int .i64 n, .int .i64 (s 0), .int .i64 (s 1), .int .i64 (s 2), .int .i64 (s 3), .int .i64 (s 4)] 24)); have Rlft_5 := Lib.hid (row_alloc (row_below Rlft_4.out hb5) (.cells #[.int .i64 n, .int .i64 (s 0), .int .i64 (s 1), .int .i64 (s 2), .int .i64 (s 3), .int .i64 (s 4)] 24)); have Rrgt_5 := Lib.hid (row_alloc (row_below Rrgt_4.out hb5) (.cells #[.int .i64 n, .int .i64 (s 0), .int .i64 (s 1), .int .i64 (s 2), .int .i64 (s 3), .int .i64 (s 4)] 24)); have Rsl_5 := Lib.hid (row_new w5 n (s 0) (s 1) (s 2) (s 3) (s 4)); obtain ⟨a_5q0, a_5q1, a_5q2, a_5q3, a_5q4, a_5q5⟩ := Ra_5.out; obtain ⟨sl_5q0, sl_5q1, sl_5q2, sl_5q3, sl_5q4, sl_5q5⟩ := Rsl_5.out; clear hb5)
    | (go_at_call 10; (with_reducible refine (C4.out _).mono ?_); rintro e w4 ⟨rfl, hb4⟩; have T4 := Lib.hid ((T3.out.trans (bel_le hb4 T3.out.size)).alloc (by have := T3.out.size; have := hb4.size; omega) (.cells #[.int .i64 n, .int .i64 (L 0), .int .i64 (L 1), .int .i64 (L 2), .int .i64 (L 3), .int .i64 (L 4)] 24)); have I4 := Lib.hid (ints_alloc (I3.out.below hb4) (.cells #[.int .i64 n, .int .i64 (L 0), .int .i64 (L 1), .int .i64 (L 2), .int .i64 (L 3), .int .i64 (L 4)] 24)); have Ra_4 := Lib.hid (row_alloc (row_below Ra_3.out hb4) (.cells #[.int .i64 n, .int .i64 (L 0), .int .i64 (L 1), .int .i64 (L 2), .int .i64 (L 3), .int .i64 (L 4)] 24)); have Rb_4 := Lib.hid (row_alloc (row_below Rb_3.out hb4) (.cells #[.int .i64 n, .int .i64 (L 0), .int .i64 (L 1), .int .i64 (L 2), .int .i64 (L 3), .int .i64 (L 4)] 24)); have Rab_4 := Lib.hid (row_alloc (row_below Rab_3.out hb4) (.cells #[.int .i64 n, .int .i64 (L 0), .int .i64 (L 1), .int .i64 (L 2), .int .i64 (L 3), .int .i64 (L 4)] 24)); have Rlft_4 := Lib.hid (row_alloc (row_below Rlft_3.out hb4) (.cells #[.int .i64 n, .int .i64 (L 0), .int .i64 (L 1), .int .i64 (L 2), .int .i64 (L 3), .int .i64 (L 4)] 24)); have Rrgt_4 := Lib.hid (row_new w4 n (L 0) (L 1) (L 2) (L 3) (L 4)); obtain ⟨a_4q0, a_4q1, a_4q2, a_4q3, a_4q4, a_4q5⟩ := Ra_4.out; clear hb4)
    | (go_at_call 10; (with_reducible refine (C3.out _).mono ?_); rintro e w3 ⟨rfl, hb3⟩; have T3 := Lib.hid ((T2.out.trans (bel_le hb3 T2.out.size)).alloc (by have := T2.out.size; have := hb3.size; omega) (.cells #[.int .i64 n, .int .i64 (L 0), .int .i64 (L 1), .int .i64 (L 2), .int .i64 (L 3), .int .i64 (L 4)] 24)); have I3 := Lib.hid (ints_alloc (I2.out.below hb3) (.cells #[.int .i64 n, .int .i64 (L 0), .int .i64 (L 1), .int .i64 (L 2), .int .i64 (L 3), .int .i64 (L 4)] 24)); have Ra_3 := Lib.hid (row_alloc (row_below Ra_2.out hb3) (.cells #[.int .i64 n, .int .i64 (L 0), .int .i64 (L 1), .int .i64 (L 2), .int .i64 (L 3), .int .i64 (L 4)] 24)); have Rb_3 := Lib.hid (row_alloc (row_below Rb_2.out hb3) (.cells #[.int .i64 n, .int .i64 (L 0), .int .i64 (L 1), .int .i64 (L 2), .int .i64 (L 3), .int .i64 (L 4)] 24)); have Rab_3 := Lib.hid (row_alloc (row_below Rab_2.out hb3) (.cells #[.int .i64 n, .int .i64 (L 0), .int .i64 (L 1), .int .i64 (L 2), .int .i64 (L 3), .int .i64 (L 4)] 24)); have Rba_3 := Lib.hid (row_alloc (row_below Rba_2.out hb3) (.cells #[.int .i64 n, .int .i64 (L 0), .int .i64 (L 1), .int .i64 (L 2), .int .i64 (L 3), .int .i64 (L 4)] 24)); have Rlft_3 := Lib.hid (row_new w3 n (L 0) (L 1) (L 2) (L 3) (L 4)); obtain ⟨a_3q0, a_3q1, a_3q2, a_3q3, a_3q4, a_3q5⟩ := Ra_3.out; obtain ⟨ba_3q0, ba_3q1, ba_3q2, ba_3q3, ba_3q4, ba_3q5⟩ := Rba_3.out; clear hb3)
    | (go_at_call 10; (with_reducible refine (C2.out _).mono ?_); rintro e w2 ⟨rfl, hb2⟩; have T2 := Lib.hid ((T1.out.trans (bel_le hb2 T1.out.size)).alloc (by have := T1.out.size; have := hb2.size; omega) (.cells #[.int .i64 n, .int .i64 (ba 0), .int .i64 (ba 1), .int .i64 (ba 2), .int .i64 (ba 3), .int .i64 (ba 4)] 24)); have I2 := Lib.hid (ints_alloc (I1.out.below hb2) (.cells #[.int .i64 n, .int .i64 (ba 0), .int .i64 (ba 1), .int .i64 (ba 2), .int .i64 (ba 3), .int .i64 (ba 4)] 24)); have Ra_2 := Lib.hid (row_alloc (row_below Ra_1.out hb2) (.cells #[.int .i64 n, .int .i64 (ba 0), .int .i64 (ba 1), .int .i64 (ba 2), .int .i64 (ba 3), .int .i64 (ba 4)] 24)); have Rb_2 := Lib.hid (row_alloc (row_below Rb_1.out hb2) (.cells #[.int .i64 n, .int .i64 (ba 0), .int .i64 (ba 1), .int .i64 (ba 2), .int .i64 (ba 3), .int .i64 (ba 4)] 24)); have Rab_2 := Lib.hid (row_alloc (row_below Rab_1.out hb2) (.cells #[.int .i64 n, .int .i64 (ba 0), .int .i64 (ba 1), .int .i64 (ba 2), .int .i64 (ba 3), .int .i64 (ba 4)] 24)); have Rba_2 := Lib.hid (row_new w2 n (ba 0) (ba 1) (ba 2) (ba 3) (ba 4)); obtain ⟨a_2q0, a_2q1, a_2q2, a_2q3, a_2q4, a_2q5⟩ := Ra_2.out; obtain ⟨ab_2q0, ab_2q1, ab_2q2, ab_2q3, ab_2q4, ab_2q5⟩ := Rab_2.out; clear hb2)
    | (go_at_call 10; (with_reducible refine (C1.out _).mono ?_); rintro e w1 ⟨rfl, hb1⟩; have T1 := Lib.hid ((TT0.out.trans (bel_le hb1 TT0.out.size)).alloc (by have := TT0.out.size; have := hb1.size; omega) (.cells #[.int .i64 n, .int .i64 (ab 0), .int .i64 (ab 1), .int .i64 (ab 2), .int .i64 (ab 3), .int .i64 (ab 4)] 24)); have I1 := Lib.hid (ints_alloc (I0.out.below hb1) (.cells #[.int .i64 n, .int .i64 (ab 0), .int .i64 (ab 1), .int .i64 (ab 2), .int .i64 (ab 3), .int .i64 (ab 4)] 24)); have Ra_1 := Lib.hid (row_alloc (row_below Ra_0.out hb1) (.cells #[.int .i64 n, .int .i64 (ab 0), .int .i64 (ab 1), .int .i64 (ab 2), .int .i64 (ab 3), .int .i64 (ab 4)] 24)); have Rb_1 := Lib.hid (row_alloc (row_below Rb_0.out hb1) (.cells #[.int .i64 n, .int .i64 (ab 0), .int .i64 (ab 1), .int .i64 (ab 2), .int .i64 (ab 3), .int .i64 (ab 4)] 24)); have Rab_1 := Lib.hid (row_new w1 n (ab 0) (ab 1) (ab 2) (ab 3) (ab 4)); obtain ⟨a_1q0, a_1q1, a_1q2, a_1q3, a_1q4, a_1q5⟩ := Ra_1.out; obtain ⟨b_1q0, b_1q1, b_1q2, b_1q3, b_1q4, b_1q5⟩ := Rb_1.out; clear hb1)
    | (go_at_call 9; refine (HK.out _ IA.out).mono ?_; rintro e w02 ⟨rfl, mm, hw⟩; have hbk : Below w00.heap.size w00 w02 := hw ▸ below_drewN (Below.refl _ _) mm; clear hw mm; have TT0 := Lib.hid (TA.out.trans (bel_le hbk TA.out.size)); have Ra_0 := Lib.hid (row_below RaA.out hbk); obtain ⟨a_0q0, a_0q1, a_0q2, a_0q3, a_0q4, a_0q5⟩ := Ra_0.out; have Rb_0 := Lib.hid (row_below RbA.out hbk); obtain ⟨b_0q0, b_0q1, b_0q2, b_0q3, b_0q4, b_0q5⟩ := Rb_0.out; have I0 := Lib.hid (IA.out.below hbk); clear hbk)
    | (go_at_call 6; refine (HG.out _ _ (own_new w0 [.int .i64 n, .int .i64 (a 0), .int .i64 (a 1), .int .i64 (a 2), .int .i64 (a 3), .int .i64 (a 4), .int .i64 n, .int .i64 (b 0), .int .i64 (b 1), .int .i64 (b 2), .int .i64 (b 3), .int .i64 (b 4)] 24)).mono ?_; rintro e w00 ⟨rfl, hb00⟩; have TA := Lib.hid ((T0.out.alloc T0.out.size (.cells #[.int .i64 n, .int .i64 (a 0), .int .i64 (a 1), .int .i64 (a 2), .int .i64 (a 3), .int .i64 (a 4), .int .i64 n, .int .i64 (b 0), .int .i64 (b 1), .int .i64 (b 2), .int .i64 (b 3), .int .i64 (b 4)] 24)).trans (bel_le hb00 (by rw [size_alloc]; exact Nat.le_succ_of_le T0.out.size))); have RaA := Lib.hid (row_below (row_alloc Ra0.out (.cells #[.int .i64 n, .int .i64 (a 0), .int .i64 (a 1), .int .i64 (a 2), .int .i64 (a 3), .int .i64 (a 4), .int .i64 n, .int .i64 (b 0), .int .i64 (b 1), .int .i64 (b 2), .int .i64 (b 3), .int .i64 (b 4)] 24)) hb00); have RbA := Lib.hid (row_below (row_alloc Rb0.out (.cells #[.int .i64 n, .int .i64 (a 0), .int .i64 (a 1), .int .i64 (a 2), .int .i64 (a 3), .int .i64 (a 4), .int .i64 n, .int .i64 (b 0), .int .i64 (b 1), .int .i64 (b 2), .int .i64 (b 3), .int .i64 (b 4)] 24)) hb00); have IA := Lib.hid ((ints_alloc Iz.out (.cells #[.int .i64 n, .int .i64 (a 0), .int .i64 (a 1), .int .i64 (a 2), .int .i64 (a 3), .int .i64 (a 4), .int .i64 n, .int .i64 (b 0), .int .i64 (b 1), .int .i64 (b 2), .int .i64 (b 3), .int .i64 (b 4)] 24)).below hb00); obtain ⟨aA0, aA1, aA2, aA3, aA4, aA5⟩ := RaA.out; clear hb00)
  all_goals go_ret
  all_goals exact ⟨rfl, T18.out⟩
theorem comp_of {n : Nat} {a b r : Nat → Nat} (ha : WF n a) (hb : WF n b) (h : prod n a b = r) : Comp n a b r := by subst h; exact product_wf ha hb
theorem rename_of {n : Nat} {a r : Nat → Nat} {zs : List Int} (ha : WF n a) (hl : zs.length = n) (hc : Go.Perm.check zs = 0) (h : ren n a (idx zs) = r) : Rename n a zs r := by subst h; exact fun w v hi => permute_ints ha zs hl hc w v hi
theorem kern_of {n k : Nat} {a : Nat → Nat} (ha : WF n a) (h : kern n a = k) : Kern n a k := by subst h; exact ker33_wf ha
theorem still_of (n : Nat) (h1 : 1 ≤ n) (h5 : n ≤ 5) : Still n (sil n) := by
  intro w
  rcases (by omega : n = 1 ∨ n = 2 ∨ n = 3 ∨ n = 4 ∨ n = 5) with rfl | rfl | rfl | rfl | rfl
  · have h := closed run14_1 w
    rwa [show ((sil 1 0 : Nat) : Int) = 1 from by decide, show ((sil 1 1 : Nat) : Int) = 0 from by decide, show ((sil 1 2 : Nat) : Int) = 0 from by decide, show ((sil 1 3 : Nat) : Int) = 0 from by decide, show ((sil 1 4 : Nat) : Int) = 0 from by decide]
  · have h := closed run14_2 w
    rwa [show ((sil 2 0 : Nat) : Int) = 1 from by decide, show ((sil 2 1 : Nat) : Int) = 2 from by decide, show ((sil 2 2 : Nat) : Int) = 0 from by decide, show ((sil 2 3 : Nat) : Int) = 0 from by decide, show ((sil 2 4 : Nat) : Int) = 0 from by decide]
  · have h := closed run14_3 w
    rwa [show ((sil 3 0 : Nat) : Int) = 1 from by decide, show ((sil 3 1 : Nat) : Int) = 2 from by decide, show ((sil 3 2 : Nat) : Int) = 4 from by decide, show ((sil 3 3 : Nat) : Int) = 0 from by decide, show ((sil 3 4 : Nat) : Int) = 0 from by decide]
  · have h := closed run14_4 w
    rwa [show ((sil 4 0 : Nat) : Int) = 1 from by decide, show ((sil 4 1 : Nat) : Int) = 2 from by decide, show ((sil 4 2 : Nat) : Int) = 4 from by decide, show ((sil 4 3 : Nat) : Int) = 8 from by decide, show ((sil 4 4 : Nat) : Int) = 0 from by decide]
  · have h := closed run14_5 w
    rwa [show ((sil 5 0 : Nat) : Int) = 1 from by decide, show ((sil 5 1 : Nat) : Int) = 2 from by decide, show ((sil 5 2 : Nat) : Int) = 4 from by decide, show ((sil 5 3 : Nat) : Int) = 8 from by decide, show ((sil 5 4 : Nat) : Int) = 16 from by decide]
theorem productsMove_walk {W : World} (n r0 r1 r2 r3 r4 m s0 s1 s2 s3 s4 : Int) {v : Value} {zs : List Int} (h : IntsAt W .i64 v zs) :
    Calls Try.prog 4 #[.agg #[.int .i64 n, .int .i64 r0, .int .i64 r1, .int .i64 r2, .int .i64 r3, .int .i64 r4], .agg #[.int .i64 m, .int .i64 s0, .int .i64 s1, .int .i64 s2, .int .i64 s3, .int .i64 s4], v] W fun e w' => e = .returned (.bool true) ∧ Below W.heap.size W w' := by
  rcases graphs2 n r0 r1 r2 r3 r4 m s0 s1 s2 s3 s4 with ⟨q, a, b, ha, hb, ⟨rfl, rfl, rfl, rfl, rfl, rfl⟩, ⟨rfl, rfl, rfl, rfl, rfl, rfl⟩, hg⟩ | hg
  · have h' := h
    obtain ⟨p, cap, rfl, h1, h2, h0⟩ := h
    by_cases hl : zs.length = q
    · by_cases hck : Go.Perm.check zs = 0
      · subst hl
        have u := undo_of hck
        have hi := (Go.Perm.inverse hck).1
        have hil : (Go.Perm.mv zs (Go.Perm.ids zs.length) zs.length).length = zs.length := by rw [Go.Perm.mv_length, Go.Perm.ids_length]
        have hk : kern zs.length a < 2 ^ zs.length := kernTo_lt _ _ _
        have hm : Image zs (kern zs.length a) (kern zs.length (ren zs.length a (idx zs))) := by
          intro w v hv
          have := set_ints (S := kern zs.length a) hck hk hv
          rw [kern_ren rfl u] at this
          exact this
        exact moves_ok zs _ hck (comp_of ha hb rfl) (comp_of hb ha rfl) (comp_of (ha.prod hb) ha rfl) (comp_of ha (hb.prod ha) (prod_assoc _ a b a).symm) (still_of _ ha.pos ha.top) (comp_of (WF.sil ha.pos ha.top) ha (sil_prod ha))
          (unite_of ha hb rfl) (comp_of (ha.join hb) hb rfl) (comp_of hb hb rfl) (unite_of (ha.prod hb) (hb.prod hb) (join_prod _ b a b).symm)
          (rename_of ha rfl hck rfl) (rename_of hb rfl hck rfl) (comp_of (ha.ren u) (hb.ren u) (ren_prod ha u).symm) (rename_of (ha.prod hb) rfl hck rfl) (fun w v hv => inv_ints hck hv) (rename_of (ha.ren u) hil hi (ren_ren ha u))
          (kern_of ha rfl) (kern_of (ha.ren u) rfl) hm hg p cap W h'
      · subst hl
        exact moves_check hg p cap zs hck W h'
    · exact moves_len hg p cap _ zs hl W h'
  · exact moves_no n r0 r1 r2 r3 r4 m s0 s1 s2 s3 s4 v hg W
end Go.Proofs.Ytgkgdobmiejdhaa.Graph
