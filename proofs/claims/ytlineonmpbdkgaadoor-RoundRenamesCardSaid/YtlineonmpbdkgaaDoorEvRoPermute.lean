/-
  Rounds with renamed processes: the program's and the reference's.
-/
import Derived.Test.YtlineonmpbdkgaaDoorEvRoChecksWalk
import Derived.Test.YtlineonmpbdkgaaDoorEvRoGPermAny
namespace Go.Proofs.YtlineonmpbdkgaaDoor.Graph
open Go Go.RowKit Go.Graph Go.Law
open Go.Proofs.YtlineonmpbdkgaaDoor.Col
open Go.Proofs.YtlineonmpbdkgaaDoor.Perm (Quiet check_ints rcheck_ints set_ints setR image_any)

/-- A round and an error, as two functions give them. -/
def pair7 (c0 c1 c2 c3 c4 c5 c6 e : Int) : Value := .tuple #[.agg #[.int .i64 c0, .int .i64 c1, .int .i64 c2, .int .i64 c3, .int .i64 c4, .int .i64 c5, .int .i64 c6], .int .i64 e]
theorem below_set7 {w w' : World} {B S : Nat} (h : Below S w w') (hB : S ≤ B) (y0 y1 y2 y3 y4 y5 y6 : Value) :
    Below S w (((((((w'.setCell ⟨B, 0, none⟩ y0).setCell ⟨B, 1, none⟩ y1).setCell ⟨B, 2, none⟩ y2).setCell ⟨B, 3, none⟩ y3).setCell ⟨B, 4, none⟩ y4).setCell ⟨B, 5, none⟩ y5).setCell ⟨B, 6, none⟩ y6) :=
  ((((((h.setCell hB y0).setCell hB y1).setCell hB y2).setCell hB y3).setCell hB y4).setCell hB y5).setCell hB y6
set_option maxRecDepth 100000 in
set_option maxHeartbeats 2000000 in
theorem perm14_first (n r0 r1 r2 r3 r4 f c : Int) (v : Value) (hc : c ≠ 0) (hb : ∀ w : World, Calls Tryd.prog 9 #[.agg #[.int .i64 n, .int .i64 r0, .int .i64 r1, .int .i64 r2, .int .i64 r3, .int .i64 r4, .int .i64 f]] w fun e w' => e = .returned (.int .i64 c) ∧ Below w.heap.size w w') (w : World) :
    Calls Tryd.prog 14 #[.agg #[.int .i64 n, .int .i64 r0, .int .i64 r1, .int .i64 r2, .int .i64 r3, .int .i64 r4, .int .i64 f], v] w fun e w' => e = .returned (pair7 0 0 0 0 0 0 0 c) ∧ Below w.heap.size w w' := by
  have e1 : (c != 0) = true := by simpa using hc
  clear hc
  have HB := Lib.hid hb
  clear hb
  have T0 := Lib.hid ((below_alloc w (.cells #[.int .i64 n, .int .i64 r0, .int .i64 r1, .int .i64 r2, .int .i64 r3, .int .i64 r4, .int .i64 f] 26)).alloc (by rw [size_alloc]; omega) (.cells #[.int .i64 0, .int .i64 0, .int .i64 0, .int .i64 0, .int .i64 0, .int .i64 0, .int .i64 0] 26))
  have RA := Lib.hid (row7_alloc (row7_new w n r0 r1 r2 r3 r4 f) (.cells #[.int .i64 0, .int .i64 0, .int .i64 0, .int .i64 0, .int .i64 0, .int .i64 0, .int .i64 0] 26))
  have RO := Lib.hid (own_new (w.alloc (.cells #[.int .i64 n, .int .i64 r0, .int .i64 r1, .int .i64 r2, .int .i64 r3, .int .i64 r4, .int .i64 f] 26)) [.int .i64 0, .int .i64 0, .int .i64 0, .int .i64 0, .int .i64 0, .int .i64 0, .int .i64 0] 26)
  rw [size_alloc] at RO
  go_enter Tryd.func14, Tryd.ntmps14
  go_wp2_with (go_at_call 9; refine (HB.out _).mono ?_; rintro e w1 ⟨rfl, hb1⟩; have t1 := Lib.hid (T0.out.trans (bel_le hb1 T0.out.size)); have Ob := Lib.hid (RO.out.below hb1 RO.out.lt); clear hb1; have d0 := Ob.out.cell (j := 0) (v := .int .i64 0) rfl; have d1 := Ob.out.cell (j := 1) (v := .int .i64 0) rfl; have d2 := Ob.out.cell (j := 2) (v := .int .i64 0) rfl; have d3 := Ob.out.cell (j := 3) (v := .int .i64 0) rfl; have d4 := Ob.out.cell (j := 4) (v := .int .i64 0) rfl; have d5 := Ob.out.cell (j := 5) (v := .int .i64 0) rfl; have d6 := Ob.out.cell (j := 6) (v := .int .i64 0) rfl; have z0 := Ob.out.free 0; have z1 := Ob.out.free 1; have z2 := Ob.out.free 2; have z3 := Ob.out.free 3; have z4 := Ob.out.free 4; have z5 := Ob.out.free 5; have z6 := Ob.out.free 6)
  (try simp only [Exit.inBlock, Exit.then])
  refine bodyPost_ret (v := pair7 0 0 0 0 0 0 0 c) (by simp [results, Tryd.results14, go_sem, pair7, d0, d1, d2, d3, d4, d5, d6]) rfl ⟨rfl, below_set7 t1.out (by show w.heap.size ≤ w.heap.size + 1; omega) _ _ _ _ _ _ _⟩
set_option maxRecDepth 100000 in
set_option maxHeartbeats 2000000 in
theorem perm15_first (n r0 r1 r2 r3 r4 f c : Int) (v : Value) (hc : c ≠ 0) (hb : ∀ w : World, Calls Tryd.prog 10 #[.agg #[.int .i64 n, .int .i64 r0, .int .i64 r1, .int .i64 r2, .int .i64 r3, .int .i64 r4, .int .i64 f]] w fun e w' => e = .returned (.int .i64 c) ∧ Below w.heap.size w w') (w : World) :
    Calls Tryd.prog 15 #[.agg #[.int .i64 n, .int .i64 r0, .int .i64 r1, .int .i64 r2, .int .i64 r3, .int .i64 r4, .int .i64 f], v] w fun e w' => e = .returned (pair7 0 0 0 0 0 0 0 c) ∧ Below w.heap.size w w' := by
  have e1 : (c != 0) = true := by simpa using hc
  clear hc
  have HB := Lib.hid hb
  clear hb
  have T0 := Lib.hid ((below_alloc w (.cells #[.int .i64 n, .int .i64 r0, .int .i64 r1, .int .i64 r2, .int .i64 r3, .int .i64 r4, .int .i64 f] 26)).alloc (by rw [size_alloc]; omega) (.cells #[.int .i64 0, .int .i64 0, .int .i64 0, .int .i64 0, .int .i64 0, .int .i64 0, .int .i64 0] 26))
  have RA := Lib.hid (row7_alloc (row7_new w n r0 r1 r2 r3 r4 f) (.cells #[.int .i64 0, .int .i64 0, .int .i64 0, .int .i64 0, .int .i64 0, .int .i64 0, .int .i64 0] 26))
  have RO := Lib.hid (own_new (w.alloc (.cells #[.int .i64 n, .int .i64 r0, .int .i64 r1, .int .i64 r2, .int .i64 r3, .int .i64 r4, .int .i64 f] 26)) [.int .i64 0, .int .i64 0, .int .i64 0, .int .i64 0, .int .i64 0, .int .i64 0, .int .i64 0] 26)
  rw [size_alloc] at RO
  go_enter Tryd.func15, Tryd.ntmps15
  go_wp2_with (go_at_call 10; refine (HB.out _).mono ?_; rintro e w1 ⟨rfl, hb1⟩; have t1 := Lib.hid (T0.out.trans (bel_le hb1 T0.out.size)); have Ob := Lib.hid (RO.out.below hb1 RO.out.lt); clear hb1; have d0 := Ob.out.cell (j := 0) (v := .int .i64 0) rfl; have d1 := Ob.out.cell (j := 1) (v := .int .i64 0) rfl; have d2 := Ob.out.cell (j := 2) (v := .int .i64 0) rfl; have d3 := Ob.out.cell (j := 3) (v := .int .i64 0) rfl; have d4 := Ob.out.cell (j := 4) (v := .int .i64 0) rfl; have d5 := Ob.out.cell (j := 5) (v := .int .i64 0) rfl; have d6 := Ob.out.cell (j := 6) (v := .int .i64 0) rfl; have z0 := Ob.out.free 0; have z1 := Ob.out.free 1; have z2 := Ob.out.free 2; have z3 := Ob.out.free 3; have z4 := Ob.out.free 4; have z5 := Ob.out.free 5; have z6 := Ob.out.free 6)
  (try simp only [Exit.inBlock, Exit.then])
  refine bodyPost_ret (v := pair7 0 0 0 0 0 0 0 c) (by simp [results, Tryd.results15, go_sem, pair7, d0, d1, d2, d3, d4, d5, d6]) rfl ⟨rfl, below_set7 t1.out (by show w.heap.size ≤ w.heap.size + 1; omega) _ _ _ _ _ _ _⟩
set_option maxRecDepth 100000 in
set_option maxHeartbeats 2000000 in
theorem perm14_second (n r0 r1 r2 r3 r4 f c : Int) (v : Value) (zs : List Int) (hc : c ≠ 0) (hb : ∀ w : World, Calls Tryd.prog 9 #[.agg #[.int .i64 n, .int .i64 r0, .int .i64 r1, .int .i64 r2, .int .i64 r3, .int .i64 r4, .int .i64 f]] w fun e w' => e = .returned (.int .i64 0) ∧ Below w.heap.size w w')
    (hg : ∀ w : World, IntsAt w .i64 v zs → Calls Tryd.prog 31 #[.agg #[.int .i64 n, .int .i64 r0, .int .i64 r1, .int .i64 r2, .int .i64 r3, .int .i64 r4], v] w fun e w' => e = .returned (pairV 0 0 0 0 0 0 c) ∧ Below w.heap.size w w') (w : World) (hi : IntsAt w .i64 v zs) :
    Calls Tryd.prog 14 #[.agg #[.int .i64 n, .int .i64 r0, .int .i64 r1, .int .i64 r2, .int .i64 r3, .int .i64 r4, .int .i64 f], v] w fun e w' => e = .returned (pair7 0 0 0 0 0 0 0 c) ∧ Below w.heap.size w w' := by
  have e1 : (c != 0) = true := by simpa using hc
  clear hc
  have HB := Lib.hid hb
  have HG := Lib.hid hg
  unfold pairV at HG
  clear hb hg
  have T0 := Lib.hid ((below_alloc w (.cells #[.int .i64 n, .int .i64 r0, .int .i64 r1, .int .i64 r2, .int .i64 r3, .int .i64 r4, .int .i64 f] 26)).alloc (by rw [size_alloc]; omega) (.cells #[.int .i64 0, .int .i64 0, .int .i64 0, .int .i64 0, .int .i64 0, .int .i64 0, .int .i64 0] 26))
  have RA := Lib.hid (row7_alloc (row7_new w n r0 r1 r2 r3 r4 f) (.cells #[.int .i64 0, .int .i64 0, .int .i64 0, .int .i64 0, .int .i64 0, .int .i64 0, .int .i64 0] 26))
  have RO := Lib.hid (own_new (w.alloc (.cells #[.int .i64 n, .int .i64 r0, .int .i64 r1, .int .i64 r2, .int .i64 r3, .int .i64 r4, .int .i64 f] 26)) [.int .i64 0, .int .i64 0, .int .i64 0, .int .i64 0, .int .i64 0, .int .i64 0, .int .i64 0] 26)
  rw [size_alloc] at RO
  have HI := Lib.hid (hi.below T0.out)
  clear hi
  go_enter Tryd.func14, Tryd.ntmps14
  go_wp2_with (first
    | (go_at_call 9; refine (HB.out _).mono ?_; rintro e w1 ⟨rfl, hb1⟩; have t1 := Lib.hid (T0.out.trans (bel_le hb1 T0.out.size)); have Ob := Lib.hid (RO.out.below hb1 RO.out.lt); have HI1 := Lib.hid (HI.out.below hb1); have RA1 := Lib.hid (row7_below RA.out hb1); clear hb1; obtain ⟨p0, p1, p2, p3, p4, p5, p6⟩ := RA1.out)
    | (go_at_call 31; refine (HG.out _ HI1.out).mono ?_; rintro e w2 ⟨rfl, hb2⟩; have t2 := Lib.hid (t1.out.trans (bel_le hb2 t1.out.size)); have t3 := Lib.hid (t2.out.alloc t2.out.size (.cells #[.int .i64 0, .int .i64 0, .int .i64 0, .int .i64 0, .int .i64 0, .int .i64 0] 24)); have Oc := Lib.hid ((Ob.out.below hb2 Ob.out.lt).alloc (.cells #[.int .i64 0, .int .i64 0, .int .i64 0, .int .i64 0, .int .i64 0, .int .i64 0] 24)); clear hb2; have d0 := Oc.out.cell (j := 0) (v := .int .i64 0) rfl; have d1 := Oc.out.cell (j := 1) (v := .int .i64 0) rfl; have d2 := Oc.out.cell (j := 2) (v := .int .i64 0) rfl; have d3 := Oc.out.cell (j := 3) (v := .int .i64 0) rfl; have d4 := Oc.out.cell (j := 4) (v := .int .i64 0) rfl; have d5 := Oc.out.cell (j := 5) (v := .int .i64 0) rfl; have d6 := Oc.out.cell (j := 6) (v := .int .i64 0) rfl; have z0 := Oc.out.free 0; have z1 := Oc.out.free 1; have z2 := Oc.out.free 2; have z3 := Oc.out.free 3; have z4 := Oc.out.free 4; have z5 := Oc.out.free 5; have z6 := Oc.out.free 6))
  (try simp only [Exit.inBlock, Exit.then])
  refine bodyPost_ret (v := pair7 0 0 0 0 0 0 0 c) (by simp [results, Tryd.results14, go_sem, pair7, d0, d1, d2, d3, d4, d5, d6]) rfl ⟨rfl, below_set7 t3.out (by show w.heap.size ≤ w.heap.size + 1; omega) _ _ _ _ _ _ _⟩
set_option maxRecDepth 100000 in
set_option maxHeartbeats 2000000 in
theorem perm14_ok (n r0 r1 r2 r3 r4 f s0 s1 s2 s3 s4 q : Int) (v : Value) (zs : List Int) (hb : ∀ w : World, Calls Tryd.prog 9 #[.agg #[.int .i64 n, .int .i64 r0, .int .i64 r1, .int .i64 r2, .int .i64 r3, .int .i64 r4, .int .i64 f]] w fun e w' => e = .returned (.int .i64 0) ∧ Below w.heap.size w w')
    (hg : ∀ w : World, IntsAt w .i64 v zs → Calls Tryd.prog 31 #[.agg #[.int .i64 n, .int .i64 r0, .int .i64 r1, .int .i64 r2, .int .i64 r3, .int .i64 r4], v] w fun e w' => e = .returned (pairV n s0 s1 s2 s3 s4 0) ∧ Below w.heap.size w w')
    (hs : ∀ w : World, IntsAt w .i64 v zs → Calls Tryd.prog 32 #[v, .int .i64 f] w fun e w' => e = .returned (.tuple #[.int .i64 q, .int .i64 0]) ∧ w = w') (w : World) (hi : IntsAt w .i64 v zs) :
    Calls Tryd.prog 14 #[.agg #[.int .i64 n, .int .i64 r0, .int .i64 r1, .int .i64 r2, .int .i64 r3, .int .i64 r4, .int .i64 f], v] w fun e w' => e = .returned (pair7 n s0 s1 s2 s3 s4 q 0) ∧ Below w.heap.size w w' := by
  have HB := Lib.hid hb
  have HG := Lib.hid hg
  have HS := Lib.hid hs
  unfold pairV at HG
  clear hb hg hs
  have T0 := Lib.hid ((below_alloc w (.cells #[.int .i64 n, .int .i64 r0, .int .i64 r1, .int .i64 r2, .int .i64 r3, .int .i64 r4, .int .i64 f] 26)).alloc (by rw [size_alloc]; omega) (.cells #[.int .i64 0, .int .i64 0, .int .i64 0, .int .i64 0, .int .i64 0, .int .i64 0, .int .i64 0] 26))
  have RA := Lib.hid (row7_alloc (row7_new w n r0 r1 r2 r3 r4 f) (.cells #[.int .i64 0, .int .i64 0, .int .i64 0, .int .i64 0, .int .i64 0, .int .i64 0, .int .i64 0] 26))
  have RO := Lib.hid (own_new (w.alloc (.cells #[.int .i64 n, .int .i64 r0, .int .i64 r1, .int .i64 r2, .int .i64 r3, .int .i64 r4, .int .i64 f] 26)) [.int .i64 0, .int .i64 0, .int .i64 0, .int .i64 0, .int .i64 0, .int .i64 0, .int .i64 0] 26)
  rw [size_alloc] at RO
  have HI := Lib.hid (hi.below T0.out)
  clear hi
  go_enter Tryd.func14, Tryd.ntmps14
  go_wp2_with (first
    | (go_at_call 9; refine (HB.out _).mono ?_; rintro e w1 ⟨rfl, hb1⟩; have t1 := Lib.hid (T0.out.trans (bel_le hb1 T0.out.size)); have Ob := Lib.hid (RO.out.below hb1 RO.out.lt); have HI1 := Lib.hid (HI.out.below hb1); have RA1 := Lib.hid (row7_below RA.out hb1); clear hb1; obtain ⟨p0, p1, p2, p3, p4, p5, p6⟩ := RA1.out)
    | (go_at_call 31; refine (HG.out _ HI1.out).mono ?_; rintro e w2 ⟨rfl, hb2⟩; have t2 := Lib.hid (t1.out.trans (bel_le hb2 t1.out.size)); have t3 := Lib.hid (t2.out.alloc t2.out.size (.cells #[.int .i64 n, .int .i64 s0, .int .i64 s1, .int .i64 s2, .int .i64 s3, .int .i64 s4] 24)); have Oc := Lib.hid ((Ob.out.below hb2 Ob.out.lt).alloc (.cells #[.int .i64 n, .int .i64 s0, .int .i64 s1, .int .i64 s2, .int .i64 s3, .int .i64 s4] 24)); have HI2 := Lib.hid ((HI1.out.below hb2).below (below_alloc w2 (.cells #[.int .i64 n, .int .i64 s0, .int .i64 s1, .int .i64 s2, .int .i64 s3, .int .i64 s4] 24))); have RA2 := Lib.hid (row7_alloc (row7_below RA1.out hb2) (.cells #[.int .i64 n, .int .i64 s0, .int .i64 s1, .int .i64 s2, .int .i64 s3, .int .i64 s4] 24)); clear hb2; obtain ⟨u0, u1, u2, u3, u4, u5, u6⟩ := RA2.out; have d0 := Oc.out.cell (j := 0) (v := .int .i64 0) rfl; have d1 := Oc.out.cell (j := 1) (v := .int .i64 0) rfl; have d2 := Oc.out.cell (j := 2) (v := .int .i64 0) rfl; have d3 := Oc.out.cell (j := 3) (v := .int .i64 0) rfl; have d4 := Oc.out.cell (j := 4) (v := .int .i64 0) rfl; have d5 := Oc.out.cell (j := 5) (v := .int .i64 0) rfl; have d6 := Oc.out.cell (j := 6) (v := .int .i64 0) rfl; have z0 := Oc.out.free 0; have z1 := Oc.out.free 1; have z2 := Oc.out.free 2; have z3 := Oc.out.free 3; have z4 := Oc.out.free 4; have z5 := Oc.out.free 5; have z6 := Oc.out.free 6)
    | (go_at_call 32; refine (HS.out _ HI2.out).mono ?_; rintro e w' ⟨rfl, rfl⟩))
  (try simp only [Exit.inBlock, Exit.then])
  refine bodyPost_ret (v := pair7 n s0 s1 s2 s3 s4 q 0) (by simp [results, Tryd.results14, go_sem, pair7, d0, d1, d2, d3, d4, d5, d6]) rfl ⟨rfl, below_set7 t3.out (by show w.heap.size ≤ w.heap.size + 1; omega) _ _ _ _ _ _ _⟩
set_option maxRecDepth 100000 in
set_option maxHeartbeats 2000000 in
theorem perm15_second (n r0 r1 r2 r3 r4 f c : Int) (v : Value) (zs : List Int) (hc : c ≠ 0) (hb : ∀ w : World, Calls Tryd.prog 10 #[.agg #[.int .i64 n, .int .i64 r0, .int .i64 r1, .int .i64 r2, .int .i64 r3, .int .i64 r4, .int .i64 f]] w fun e w' => e = .returned (.int .i64 0) ∧ Below w.heap.size w w')
    (hk : ∀ w : World, IntsAt w .i64 v zs → Calls Tryd.prog 27 #[v] w (Quiet (.int .i64 c) w)) (w : World) (hi : IntsAt w .i64 v zs) :
    Calls Tryd.prog 15 #[.agg #[.int .i64 n, .int .i64 r0, .int .i64 r1, .int .i64 r2, .int .i64 r3, .int .i64 r4, .int .i64 f], v] w fun e w' => e = .returned (pair7 0 0 0 0 0 0 0 c) ∧ Below w.heap.size w w' := by
  have e1 : (c != 0) = true := by simpa using hc
  clear hc
  have HB := Lib.hid hb
  have HK := Lib.hid hk
  clear hb hk
  have T0 := Lib.hid ((below_alloc w (.cells #[.int .i64 n, .int .i64 r0, .int .i64 r1, .int .i64 r2, .int .i64 r3, .int .i64 r4, .int .i64 f] 26)).alloc (by rw [size_alloc]; omega) (.cells #[.int .i64 0, .int .i64 0, .int .i64 0, .int .i64 0, .int .i64 0, .int .i64 0, .int .i64 0] 26))
  have RA := Lib.hid (row7_alloc (row7_new w n r0 r1 r2 r3 r4 f) (.cells #[.int .i64 0, .int .i64 0, .int .i64 0, .int .i64 0, .int .i64 0, .int .i64 0, .int .i64 0] 26))
  have RO := Lib.hid (own_new (w.alloc (.cells #[.int .i64 n, .int .i64 r0, .int .i64 r1, .int .i64 r2, .int .i64 r3, .int .i64 r4, .int .i64 f] 26)) [.int .i64 0, .int .i64 0, .int .i64 0, .int .i64 0, .int .i64 0, .int .i64 0, .int .i64 0] 26)
  rw [size_alloc] at RO
  have HI := Lib.hid (hi.below T0.out)
  clear hi
  go_enter Tryd.func15, Tryd.ntmps15
  go_wp2_with (first
    | (go_at_call 10; refine (HB.out _).mono ?_; rintro e w1 ⟨rfl, hb1⟩; have t1 := Lib.hid (T0.out.trans (bel_le hb1 T0.out.size)); have Ob := Lib.hid (RO.out.below hb1 RO.out.lt); have HI1 := Lib.hid (HI.out.below hb1); clear hb1)
    | (go_at_call 27; refine (HK.out _ HI1.out).mono ?_; rintro e w2 ⟨rfl, m, rfl⟩; have t2 := Lib.hid (below_drewN t1.out m); have Oc := Lib.hid (Ob.out.drewN m); have d0 := Oc.out.cell (j := 0) (v := .int .i64 0) rfl; have d1 := Oc.out.cell (j := 1) (v := .int .i64 0) rfl; have d2 := Oc.out.cell (j := 2) (v := .int .i64 0) rfl; have d3 := Oc.out.cell (j := 3) (v := .int .i64 0) rfl; have d4 := Oc.out.cell (j := 4) (v := .int .i64 0) rfl; have d5 := Oc.out.cell (j := 5) (v := .int .i64 0) rfl; have d6 := Oc.out.cell (j := 6) (v := .int .i64 0) rfl; have z0 := Oc.out.free 0; have z1 := Oc.out.free 1; have z2 := Oc.out.free 2; have z3 := Oc.out.free 3; have z4 := Oc.out.free 4; have z5 := Oc.out.free 5; have z6 := Oc.out.free 6))
  (try simp only [Exit.inBlock, Exit.then])
  refine bodyPost_ret (v := pair7 0 0 0 0 0 0 0 c) (by simp [results, Tryd.results15, go_sem, pair7, d0, d1, d2, d3, d4, d5, d6]) rfl ⟨rfl, below_set7 t2.out (by show w.heap.size ≤ w.heap.size + 1; omega) _ _ _ _ _ _ _⟩
set_option maxRecDepth 100000 in
set_option maxHeartbeats 2000000 in
theorem perm15_third (n r0 r1 r2 r3 r4 f : Int) (p : Option Addr) (len cap : Nat) (zs : List Int) (hne : (len : Int) ≠ n) (hb : ∀ w : World, Calls Tryd.prog 10 #[.agg #[.int .i64 n, .int .i64 r0, .int .i64 r1, .int .i64 r2, .int .i64 r3, .int .i64 r4, .int .i64 f]] w fun e w' => e = .returned (.int .i64 0) ∧ Below w.heap.size w w')
    (hk : ∀ w : World, IntsAt w .i64 (.slice p len cap) zs → Calls Tryd.prog 27 #[.slice p len cap] w (Quiet (.int .i64 0) w)) (w : World) (hi : IntsAt w .i64 (.slice p len cap) zs) :
    Calls Tryd.prog 15 #[.agg #[.int .i64 n, .int .i64 r0, .int .i64 r1, .int .i64 r2, .int .i64 r3, .int .i64 r4, .int .i64 f], .slice p len cap] w fun e w' => e = .returned (pair7 0 0 0 0 0 0 0 22) ∧ Below w.heap.size w w' := by
  have e1 : ((len : Int) != n) = true := bne_iff_ne.2 hne
  clear hne
  have HB := Lib.hid hb
  have HK := Lib.hid hk
  clear hb hk
  have T0 := Lib.hid ((below_alloc w (.cells #[.int .i64 n, .int .i64 r0, .int .i64 r1, .int .i64 r2, .int .i64 r3, .int .i64 r4, .int .i64 f] 26)).alloc (by rw [size_alloc]; omega) (.cells #[.int .i64 0, .int .i64 0, .int .i64 0, .int .i64 0, .int .i64 0, .int .i64 0, .int .i64 0] 26))
  have RA := Lib.hid (row7_alloc (row7_new w n r0 r1 r2 r3 r4 f) (.cells #[.int .i64 0, .int .i64 0, .int .i64 0, .int .i64 0, .int .i64 0, .int .i64 0, .int .i64 0] 26))
  have RO := Lib.hid (own_new (w.alloc (.cells #[.int .i64 n, .int .i64 r0, .int .i64 r1, .int .i64 r2, .int .i64 r3, .int .i64 r4, .int .i64 f] 26)) [.int .i64 0, .int .i64 0, .int .i64 0, .int .i64 0, .int .i64 0, .int .i64 0, .int .i64 0] 26)
  rw [size_alloc] at RO
  have HI := Lib.hid (hi.below T0.out)
  clear hi
  go_enter Tryd.func15, Tryd.ntmps15
  go_wp2_with (first
    | (go_at_call 10; refine (HB.out _).mono ?_; rintro e w1 ⟨rfl, hb1⟩; have t1 := Lib.hid (T0.out.trans (bel_le hb1 T0.out.size)); have Ob := Lib.hid (RO.out.below hb1 RO.out.lt); have HI1 := Lib.hid (HI.out.below hb1); have RA1 := Lib.hid (row7_below RA.out hb1); clear hb1)
    | (go_at_call 27; refine (HK.out _ HI1.out).mono ?_; rintro e w2 ⟨rfl, m, rfl⟩; have t2 := Lib.hid (below_drewN t1.out m); have Oc := Lib.hid (Ob.out.drewN m); have d0 := Oc.out.cell (j := 0) (v := .int .i64 0) rfl; have d1 := Oc.out.cell (j := 1) (v := .int .i64 0) rfl; have d2 := Oc.out.cell (j := 2) (v := .int .i64 0) rfl; have d3 := Oc.out.cell (j := 3) (v := .int .i64 0) rfl; have d4 := Oc.out.cell (j := 4) (v := .int .i64 0) rfl; have d5 := Oc.out.cell (j := 5) (v := .int .i64 0) rfl; have d6 := Oc.out.cell (j := 6) (v := .int .i64 0) rfl; have z0 := Oc.out.free 0; have z1 := Oc.out.free 1; have z2 := Oc.out.free 2; have z3 := Oc.out.free 3; have z4 := Oc.out.free 4; have z5 := Oc.out.free 5; have z6 := Oc.out.free 6; obtain ⟨p0, p1, p2, p3, p4, p5, p6⟩ := row7_below RA1.out (below_drewN (Below.refl _ _) m)))
  (try simp only [Exit.inBlock, Exit.then])
  refine bodyPost_ret (v := pair7 0 0 0 0 0 0 0 22) (by simp [results, Tryd.results15, go_sem, pair7, d0, d1, d2, d3, d4, d5, d6]) rfl ⟨rfl, below_set7 t2.out (by show w.heap.size ≤ w.heap.size + 1; omega) _ _ _ _ _ _ _⟩
set_option maxRecDepth 100000 in
set_option maxHeartbeats 2000000 in
theorem perm15_ok (n r0 r1 r2 r3 r4 f s0 s1 s2 s3 s4 q : Int) (p : Option Addr) (len cap : Nat) (zs : List Int) (hl : (len : Int) = n) (hb : ∀ w : World, Calls Tryd.prog 10 #[.agg #[.int .i64 n, .int .i64 r0, .int .i64 r1, .int .i64 r2, .int .i64 r3, .int .i64 r4, .int .i64 f]] w fun e w' => e = .returned (.int .i64 0) ∧ Below w.heap.size w w')
    (hk : ∀ w : World, IntsAt w .i64 (.slice p len cap) zs → Calls Tryd.prog 27 #[.slice p len cap] w (Quiet (.int .i64 0) w))
    (hr : ∀ w : World, IntsAt w .i64 (.slice p len cap) zs → Calls Tryd.prog 46 #[.agg #[.int .i64 n, .int .i64 r0, .int .i64 r1, .int .i64 r2, .int .i64 r3, .int .i64 r4, .int .i64 f], .slice p len cap] w fun e w' => e = .returned (.agg #[.int .i64 n, .int .i64 s0, .int .i64 s1, .int .i64 s2, .int .i64 s3, .int .i64 s4, .int .i64 q]) ∧ Below w.heap.size w w') (w : World) (hi : IntsAt w .i64 (.slice p len cap) zs) :
    Calls Tryd.prog 15 #[.agg #[.int .i64 n, .int .i64 r0, .int .i64 r1, .int .i64 r2, .int .i64 r3, .int .i64 r4, .int .i64 f], .slice p len cap] w fun e w' => e = .returned (pair7 n s0 s1 s2 s3 s4 q 0) ∧ Below w.heap.size w w' := by
  have e1 : ((len : Int) != n) = false := by simp [hl]
  clear hl
  have HB := Lib.hid hb
  have HK := Lib.hid hk
  have HRn := Lib.hid hr
  clear hb hk hr
  have T0 := Lib.hid ((below_alloc w (.cells #[.int .i64 n, .int .i64 r0, .int .i64 r1, .int .i64 r2, .int .i64 r3, .int .i64 r4, .int .i64 f] 26)).alloc (by rw [size_alloc]; omega) (.cells #[.int .i64 0, .int .i64 0, .int .i64 0, .int .i64 0, .int .i64 0, .int .i64 0, .int .i64 0] 26))
  have RA := Lib.hid (row7_alloc (row7_new w n r0 r1 r2 r3 r4 f) (.cells #[.int .i64 0, .int .i64 0, .int .i64 0, .int .i64 0, .int .i64 0, .int .i64 0, .int .i64 0] 26))
  have RO := Lib.hid (own_new (w.alloc (.cells #[.int .i64 n, .int .i64 r0, .int .i64 r1, .int .i64 r2, .int .i64 r3, .int .i64 r4, .int .i64 f] 26)) [.int .i64 0, .int .i64 0, .int .i64 0, .int .i64 0, .int .i64 0, .int .i64 0, .int .i64 0] 26)
  rw [size_alloc] at RO
  have HI := Lib.hid (hi.below T0.out)
  clear hi
  go_enter Tryd.func15, Tryd.ntmps15
  go_wp2_with (first
    | (go_at_call 10; refine (HB.out _).mono ?_; rintro e w1 ⟨rfl, hb1⟩; have t1 := Lib.hid (T0.out.trans (bel_le hb1 T0.out.size)); have Ob := Lib.hid (RO.out.below hb1 RO.out.lt); have HI1 := Lib.hid (HI.out.below hb1); have RA1 := Lib.hid (row7_below RA.out hb1); clear hb1)
    | (go_at_call 27; refine (HK.out _ HI1.out).mono ?_; rintro e w2 ⟨rfl, m, rfl⟩; have t2 := Lib.hid (below_drewN t1.out m); have Oc := Lib.hid (Ob.out.drewN m); have HI2 := Lib.hid (HI1.out.drewN m); obtain ⟨p0, p1, p2, p3, p4, p5, p6⟩ := row7_below RA1.out (below_drewN (Below.refl _ _) m))
    | (go_at_call 46; refine (HRn.out _ HI2.out).mono ?_; rintro e w3 ⟨rfl, hb3⟩; have t3 := Lib.hid (t2.out.trans (bel_le hb3 t2.out.size)); have Od := Lib.hid (Oc.out.below hb3 Oc.out.lt); clear hb3; have d0 := Od.out.cell (j := 0) (v := .int .i64 0) rfl; have d1 := Od.out.cell (j := 1) (v := .int .i64 0) rfl; have d2 := Od.out.cell (j := 2) (v := .int .i64 0) rfl; have d3 := Od.out.cell (j := 3) (v := .int .i64 0) rfl; have d4 := Od.out.cell (j := 4) (v := .int .i64 0) rfl; have d5 := Od.out.cell (j := 5) (v := .int .i64 0) rfl; have d6 := Od.out.cell (j := 6) (v := .int .i64 0) rfl; have z0 := Od.out.free 0; have z1 := Od.out.free 1; have z2 := Od.out.free 2; have z3 := Od.out.free 3; have z4 := Od.out.free 4; have z5 := Od.out.free 5; have z6 := Od.out.free 6))
  (try simp only [Exit.inBlock, Exit.then])
  refine bodyPost_ret (v := pair7 n s0 s1 s2 s3 s4 q 0) (by simp [results, Tryd.results15, go_sem, pair7, d0, d1, d2, d3, d4, d5, d6]) rfl ⟨rfl, below_set7 t3.out (by show w.heap.size ≤ w.heap.size + 1; omega) _ _ _ _ _ _ _⟩
end Go.Proofs.YtlineonmpbdkgaaDoor.Graph
