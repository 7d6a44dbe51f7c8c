/-
  Roots of graphs.
-/
import Derived.Test.YtajhejdeijhccaaDoorEvGKernel
namespace Go.Proofs.YtajhejdeijhccaaDoor.Graph
open Go Go.RowKit Go.Graph Go.Law
open Go.Proofs.YtajhejdeijhccaaDoor.Col

/-- The cells of a graph. -/
def gl (n : Nat) (r : Nat → Nat) : List Value := [.int .i64 n, .int .i64 (r 0), .int .i64 (r 1), .int .i64 (r 2), .int .i64 (r 3), .int .i64 (r 4)]
theorem own_set6 {w : World} {B : Nat} {t : TypeId} {x0 x1 x2 x3 x4 x5 : Value} (h : Own w B t [x0, x1, x2, x3, x4, x5]) (y0 y1 y2 y3 y4 y5 : Value) :
    Own ((((((w.setCell ⟨B, 0, none⟩ y0).setCell ⟨B, 1, none⟩ y1).setCell ⟨B, 2, none⟩ y2).setCell ⟨B, 3, none⟩ y3).setCell ⟨B, 4, none⟩ y4).setCell ⟨B, 5, none⟩ y5) B t [y0, y1, y2, y3, y4, y5] :=
  (((((h.set 0 y0).set 1 y1).set 2 y2).set 3 y3).set 4 y4).set 5 y5
theorem below_set6 {w w' : World} {B S : Nat} (h : Below S w w') (hB : S ≤ B) (y0 y1 y2 y3 y4 y5 : Value) :
    Below S w ((((((w'.setCell ⟨B, 0, none⟩ y0).setCell ⟨B, 1, none⟩ y1).setCell ⟨B, 2, none⟩ y2).setCell ⟨B, 3, none⟩ y3).setCell ⟨B, 4, none⟩ y4).setCell ⟨B, 5, none⟩ y5) :=
  (((((h.setCell hB y0).setCell hB y1).setCell hB y2).setCell hB y3).setCell hB y4).setCell hB y5
set_option maxRecDepth 100000 in
set_option maxHeartbeats 2000000 in
theorem roots35_wf {n : Nat} {a : Nat → Nat} (ha : WF n a) (w : World) : Calls Tryd.prog 35 #[.agg #[.int .i64 n, .int .i64 (a 0), .int .i64 (a 1), .int .i64 (a 2), .int .i64 (a 3), .int .i64 (a 4)]] w fun e w' => e = .returned (.tuple #[.int .i64 (kern n (pw n a n) : Nat), .int .i64 0]) ∧ Below w.heap.size w w' := by
  have HB := Lib.hid (check_wf ha)
  have HK := Lib.hid (kernel_wf (ha.pw n))
  have HC := Lib.hid (fun k => compose_wf (ha.pw k) ha)
  have h5 := ha.top
  clear ha
  have RA := Lib.hid (row_new w n (a 0) (a 1) (a 2) (a 3) (a 4))
  have T0 := Lib.hid (below_alloc w (.cells #[.int .i64 n, .int .i64 (a 0), .int .i64 (a 1), .int .i64 (a 2), .int .i64 (a 3), .int .i64 (a 4)] 24))
  go_enter Tryd.func35, Tryd.ntmps35
  go_wp2_with (go_at_call 16; refine (HB.out _).mono ?_; rintro e w1 ⟨rfl, hb1⟩; have t1 := Lib.hid (T0.out.trans (bel_le hb1 T0.out.size)); have RA1 := Lib.hid (row_below RA.out hb1); obtain ⟨q0, q1, q2, q3, q4, q5⟩ := RA1.out; obtain ⟨p0, p1, p2, p3, p4, p5⟩ := row_alloc RA1.out (.cells #[.int .i64 n, .int .i64 (a 0), .int .i64 (a 1), .int .i64 (a 2), .int .i64 (a 3), .int .i64 (a 4)] 24); clear hb1)
  have RO := Lib.hid (own_new w1 (gl n a) 24)
  have RA2 := Lib.hid (row_alloc RA1.out (.cells ⟨gl n a⟩ 24))
  have T1 := Lib.hid (t1.out.alloc t1.out.size (.cells ⟨gl n a⟩ 24))
  have hlt0 : w.heap.size < w1.heap.size := cell_lt q0
  have hG0 := t1.out.size
  unfold gl at RO RA2 T1
  clear q0 q1 q2 q3 q4 q5 p0 p1 p2 p3 p4 p5 t1
  have hn0 := RA2.out.1
  generalize World.alloc w1 _ = W2 at *
  generalize hF : w1.heap.size = F at *
  clear hF
  go_loopw [14] (fun i wr => ∃ k : Nat, k ≤ n ∧ i = .int .i64 k ∧ Below w.heap.size w wr ∧ Own wr F 24 (gl n (pw n a k)) ∧ Row6 wr w.heap.size n (a 0) (a 1) (a 2) (a 3) (a 4)) (fun i _ => n - (intOf i).toNat)
  case atStart => exact ⟨0, Nat.zero_le _, rfl, T1.out, RO.out, RA2.out⟩
  case round =>
    obtain ⟨k, hk, rfl, hbl, hown, hrow⟩ := hrel
    have HBL := Lib.hid hbl
    have HOWN := Lib.hid hown
    have HROW := Lib.hid hrow
    unfold gl at HOWN
    clear hbl hown hrow hn0
    have c0 := HOWN.out.cell (j := 0) (v := .int .i64 n) rfl
    have c1 := HOWN.out.cell (j := 1) (v := .int .i64 (pw n a k 0 : Nat)) rfl
    have c2 := HOWN.out.cell (j := 2) (v := .int .i64 (pw n a k 1 : Nat)) rfl
    have c3 := HOWN.out.cell (j := 3) (v := .int .i64 (pw n a k 2 : Nat)) rfl
    have c4 := HOWN.out.cell (j := 4) (v := .int .i64 (pw n a k 3 : Nat)) rfl
    have c5 := HOWN.out.cell (j := 5) (v := .int .i64 (pw n a k 4 : Nat)) rfl
    obtain ⟨q0, q1, q2, q3, q4, q5⟩ := HROW.out
    by_cases hlt : k < n
    · have HCK := Lib.hid (HC.out k)
      have HE := Lib.hid (show pw n a (k + 1) = prod n (pw n a k) a from rfl)
      go_wp2_with (go_at_call 61; refine (HCK.out _).mono ?_; rintro e w2 ⟨rfl, hb2⟩; have O := Lib.hid (HOWN.out.below hb2 HOWN.out.lt); have R2 := Lib.hid (row_below HROW.out hb2); have T2 := Lib.hid (HBL.out.trans (bel_le hb2 HBL.out.size)); clear hb2; have d0 := O.out.cell (j := 0) (v := .int .i64 n) rfl; have d1 := O.out.cell (j := 1) (v := .int .i64 (pw n a k 0 : Nat)) rfl; have d2 := O.out.cell (j := 2) (v := .int .i64 (pw n a k 1 : Nat)) rfl; have d3 := O.out.cell (j := 3) (v := .int .i64 (pw n a k 2 : Nat)) rfl; have d4 := O.out.cell (j := 4) (v := .int .i64 (pw n a k 3 : Nat)) rfl; have d5 := O.out.cell (j := 5) (v := .int .i64 (pw n a k 4 : Nat)) rfl; have z0 := O.out.free 0; have z1 := O.out.free 1; have z2 := O.out.free 2; have z3 := O.out.free 3; have z4 := O.out.free 4; have z5 := O.out.free 5)
      exact ⟨⟨k + 1, by omega, by go_num, below_set6 T2.out hG0 _ _ _ _ _ _, by rw [HE.out]; exact own_set6 O.out _ _ _ _ _ _, row_bel (B := F) R2.out (below_set6 (Below.refl _ _) (Nat.le_refl _) _ _ _ _ _ _) hlt0⟩, by simp [intOf]; omega⟩
    · have hk' : k = n := by omega
      subst hk'
      go_wp2_with (go_at_call 70; refine (HK.out _).mono ?_; rintro e w2 ⟨rfl, hb2⟩; have T2 := Lib.hid (HBL.out.trans (bel_le hb2 HBL.out.size)); clear hb2)
      go_ret2
      exact ⟨rfl, T2.out⟩
set_option maxRecDepth 100000 in
set_option maxHeartbeats 2000000 in
theorem roots36_wf {n : Nat} {a : Nat → Nat} (ha : WF n a) (w : World) : Calls Tryd.prog 36 #[.agg #[.int .i64 n, .int .i64 (a 0), .int .i64 (a 1), .int .i64 (a 2), .int .i64 (a 3), .int .i64 (a 4)]] w fun e w' => e = .returned (.tuple #[.int .i64 (kern n (pw n a n) : Nat), .int .i64 0]) ∧ Below w.heap.size w w' := by
  have HB := Lib.hid (rcheck_wf ha)
  have HK := Lib.hid (common_wf (ha.pw n))
  have HC := Lib.hid (fun k => rproduct_wf (ha.pw k) ha)
  have h5 := ha.top
  clear ha
  have RA := Lib.hid (row_new w n (a 0) (a 1) (a 2) (a 3) (a 4))
  have T0 := Lib.hid (below_alloc w (.cells #[.int .i64 n, .int .i64 (a 0), .int .i64 (a 1), .int .i64 (a 2), .int .i64 (a 3), .int .i64 (a 4)] 24))
  go_enter Tryd.func36, Tryd.ntmps36
  go_wp2_with (go_at_call 17; refine (HB.out _).mono ?_; rintro e w1 ⟨rfl, hb1⟩; have t1 := Lib.hid (T0.out.trans (bel_le hb1 T0.out.size)); have RA1 := Lib.hid (row_below RA.out hb1); obtain ⟨q0, q1, q2, q3, q4, q5⟩ := RA1.out; obtain ⟨p0, p1, p2, p3, p4, p5⟩ := row_alloc RA1.out (.cells #[.int .i64 n, .int .i64 (a 0), .int .i64 (a 1), .int .i64 (a 2), .int .i64 (a 3), .int .i64 (a 4)] 24); clear hb1)
  have RO := Lib.hid (own_new w1 (gl n a) 24)
  have RA2 := Lib.hid (row_alloc RA1.out (.cells ⟨gl n a⟩ 24))
  have T1 := Lib.hid (t1.out.alloc t1.out.size (.cells ⟨gl n a⟩ 24))
  have hlt0 : w.heap.size < w1.heap.size := cell_lt q0
  have hG0 := t1.out.size
  unfold gl at RO RA2 T1
  clear q0 q1 q2 q3 q4 q5 p0 p1 p2 p3 p4 p5 t1
  have hn0 := RA2.out.1
  generalize World.alloc w1 _ = W2 at *
  generalize hF : w1.heap.size = F at *
  clear hF
  go_loopw [6] (fun i wr => ∃ k : Nat, k ≤ n ∧ i = .int .i64 k ∧ Below w.heap.size w wr ∧ Own wr F 24 (gl n (pw n a k)) ∧ Row6 wr w.heap.size n (a 0) (a 1) (a 2) (a 3) (a 4)) (fun i _ => n - (intOf i).toNat)
  case atStart => exact ⟨0, Nat.zero_le _, rfl, T1.out, RO.out, RA2.out⟩
  case round =>
    obtain ⟨k, hk, rfl, hbl, hown, hrow⟩ := hrel
    have HBL := Lib.hid hbl
    have HOWN := Lib.hid hown
    have HROW := Lib.hid hrow
    unfold gl at HOWN
    clear hbl hown hrow hn0
    have c0 := HOWN.out.cell (j := 0) (v := .int .i64 n) rfl
    have c1 := HOWN.out.cell (j := 1) (v := .int .i64 (pw n a k 0 : Nat)) rfl
    have c2 := HOWN.out.cell (j := 2) (v := .int .i64 (pw n a k 1 : Nat)) rfl
    have c3 := HOWN.out.cell (j := 3) (v := .int .i64 (pw n a k 2 : Nat)) rfl
    have c4 := HOWN.out.cell (j := 4) (v := .int .i64 (pw n a k 3 : Nat)) rfl
    have c5 := HOWN.out.cell (j := 5) (v := .int .i64 (pw n a k 4 : Nat)) rfl
    obtain ⟨q0, q1, q2, q3, q4, q5⟩ := HROW.out
    by_cases hlt : k < n
    · have HCK := Lib.hid (HC.out k)
      have HE := Lib.hid (show pw n a (k + 1) = prod n (pw n a k) a from rfl)
      go_wp2_with (go_at_call 62; refine (HCK.out _).mono ?_; rintro e w2 ⟨rfl, hb2⟩; have O := Lib.hid (HOWN.out.below hb2 HOWN.out.lt); have R2 := Lib.hid (row_below HROW.out hb2); have T2 := Lib.hid (HBL.out.trans (bel_le hb2 HBL.out.size)); clear hb2; have d0 := O.out.cell (j := 0) (v := .int .i64 n) rfl; have d1 := O.out.cell (j := 1) (v := .int .i64 (pw n a k 0 : Nat)) rfl; have d2 := O.out.cell (j := 2) (v := .int .i64 (pw n a k 1 : Nat)) rfl; have d3 := O.out.cell (j := 3) (v := .int .i64 (pw n a k 2 : Nat)) rfl; have d4 := O.out.cell (j := 4) (v := .int .i64 (pw n a k 3 : Nat)) rfl; have d5 := O.out.cell (j := 5) (v := .int .i64 (pw n a k 4 : Nat)) rfl; have z0 := O.out.free 0; have z1 := O.out.free 1; have z2 := O.out.free 2; have z3 := O.out.free 3; have z4 := O.out.free 4; have z5 := O.out.free 5)
      exact ⟨⟨k + 1, by omega, by go_num, below_set6 T2.out hG0 _ _ _ _ _ _, by rw [HE.out]; exact own_set6 O.out _ _ _ _ _ _, row_bel (B := F) R2.out (below_set6 (Below.refl _ _) (Nat.le_refl _) _ _ _ _ _ _) hlt0⟩, by simp [intOf]; omega⟩
    · have hk' : k = n := by omega
      subst hk'
      go_wp2_with (go_at_call 71; refine (HK.out _).mono ?_; rintro e w2 ⟨rfl, hb2⟩; have T2 := Lib.hid (HBL.out.trans (bel_le hb2 HBL.out.size)); clear hb2)
      go_ret2
      exact ⟨rfl, T2.out⟩
end Go.Proofs.YtajhejdeijhccaaDoor.Graph
