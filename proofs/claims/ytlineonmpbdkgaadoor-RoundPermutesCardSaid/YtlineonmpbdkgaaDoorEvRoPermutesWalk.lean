/-
  RoundPermutes answers true.
-/
import Derived.Test.YtlineonmpbdkgaaDoorEvRoChecksWalk
import Derived.Test.YtlineonmpbdkgaaDoorEvRoGPermAny
import Derived.Deep.RegionWith
namespace Go.Proofs.YtlineonmpbdkgaaDoor.Graph
open Go Go.RowKit Go.Graph Go.Law
open Go.Proofs.YtlineonmpbdkgaaDoor.Col
open Go.Proofs.YtlineonmpbdkgaaDoor.Perm (Quiet check_ints rcheck_ints set_ints setR image_any)

/-- A round and an error, as two functions give them. -/
def pair7 (c0 c1 c2 c3 c4 c5 c6 e : Int) : Value := .tuple #[.agg #[.int .i64 c0, .int .i64 c1, .int .i64 c2, .int .i64 c3, .int .i64 c4, .int .i64 c5, .int .i64 c6], .int .i64 e]
theorem below_set7 {w w' : World} {B S : Nat} (h : Below S w w') (hB : S ≤ B) (y0 y1 y2 y3 y4 y5 y6 : Value) :
    Below S w (((((((w'.setCell ⟨B, 0, none⟩ y0).setCell ⟨B, 1, none⟩ y1).setCell ⟨B, 2, none⟩ y2).setCell ⟨B, 3, none⟩ y3).setCell ⟨B, 4, none⟩ y4).setCell ⟨B, 5, none⟩ y5).setCell ⟨B, 6, none⟩ y6) :=
  ((((((h.setCell hB y0).setCell hB y1).setCell hB y2).setCell hB y3).setCell hB y4).setCell hB y5).setCell hB y6
set_option maxRecDepth 100000 in
set_option maxHeartbeats 2000000 in
theorem perm14_first (n r0 r1 r2 r3 r4 f c : Int) (v : Value) (hc : c ≠ 0) (hb : ∀ w : World, Calls Tryd.prog 9 #[.agg #[.int .i64 n, .int .i64 r0, .int .i64 r1, .int .i64 r2, .int .i64 r3, .int .i64 r4, .int .i64 f]] w fun e w' => e = .returned (.int .i64 c) ∧ Below w.heap.size w w') (w : World) :
    Calls Tryd.prog 14 #[.agg #[.int .i64 n, .int .i64 r0, .int .i64 r1, .int .i64 r2, .int .i64 r3, .int .i64 r4, .int .i64 f], v] w fun e w' => e = .returned (pair7 0 0 0 0 0 0 0 c) ∧ Below w.heap.size w w' := by
  have e1 : (c != 0) = true := by simpa using hc
  clear hc
  have HB := Lib.hid hb
  clear hb
  have T0 := Lib.hid ((below_alloc w (.cells #[.int .i64 n, .int .i64 r0, .int .i64 r1, .int .i64 r2, .int .i64 r3, .int .i64 r4, .int .i64 f] 26)).alloc (by rw [size_alloc]; omega) (.cells #[.int .i64 0, .int .i64 0, .int .i64 0, .int .i64 0, .int .i64 0, .int .i64 0, .int .i64 0] 26))
  have RA := Lib.hid (row7_alloc (row7_new w n r0 r1 r2 r3 r4 f) (.cells #[.int .i64 0, .int .i64 0, .int .i64 0, .int .i64 0, .int .i64 0, .int .i64 0, .int .i64 0] 26))
  have RO := Lib.hid (own_new (w.alloc (.cells #[.int .i64 n, .int .i64 r0, .int .i64 r1, .int .i64 r2, .int .i64 r3, .int .i64 r4, .int .i64 f] 26)) [.int .i64 0, .int .i64 0, .int .i64 0, .int .i64 0, .int .i64 0, .int .i64 0, .int .i64 0] 26)
  rw [size_alloc] at RO
  go_enter Tryd.func14, Tryd.ntmps14
  go_wp2_with (go_at_call 9; refine (HB.out _).mono ?_; rintro e w1 ⟨rfl, hb1⟩; have t1 := Lib.hid (T0.out.trans (bel_le hb1 T0.out.size)); have Ob := Lib.hid (RO.out.below hb1 RO.out.lt); clear hb1; have d0 := Ob.out.cell (j := 0) (v := .int .i64 0) rfl; have d1 := Ob.out.cell (j := 1) (v := .int .i64 0) rfl; have d2 := Ob.out.cell (j := 2) (v := .int .i64 0) rfl; have d3 := Ob.out.cell (j := 3) (v := .int .i64 0) rfl; have d4 := Ob.out.cell (j := 4) (v := .int .i64 0) rfl; have d5 := Ob.out.cell (j := 5) (v := .int .i64 0) rfl; have d6 := Ob.out.cell (j := 6) (v := .int .i64 0) rfl; have z0 := Ob.out.free 0; have z1 := Ob.out.free 1; have z2 := Ob.out.free 2; have z3 := Ob.out.free 3; have z4 := Ob.out.free 4; have z5 := Ob.out.free 5; have z6 := Ob.out.free 6)
  (try simp only [Exit.inBlock, Exit.then])
  refine bodyPost_ret (v := pair7 0 0 0 0 0 0 0 c) (by simp [results, Tryd.results14, go_sem, pair7, d0, d1, d2, d3, d4, d5, d6]) rfl ⟨rfl, below_set7 t1.out (by show w.heap.size ≤ w.heap.size + 1; omega) _ _ _ _ _ _ _⟩
set_option maxRecDepth 100000 in
set_option maxHeartbeats 2000000 in
theorem perm15_first (n r0 r1 r2 r3 r4 f c : Int) (v : Value) (hc : c ≠ 0) (hb : ∀ w : World, Calls Tryd.prog 10 #[.agg #[.int .i64 n, .int .i64 r0, .int .i64 r1, .int .i64 r2, .int .i64 r3, .int .i64 r4, .int .i64 f]] w fun e w' => e = .returned (.int .i64 c) ∧ Below w.heap.size w w') (w : World) :
    Calls Tryd.prog 15 #[.agg #[.int .i64 n, .int .i64 r0, .int .i64 r1, .int .i64 r2, .int .i64 r3, .int .i64 r4, .int .i64 f], v] w fun e w' => e = .returned (pair7 0 0 0 0 0 0 0 c) ∧ Below w.heap.size w w' := by
  have e1 : (c != 0) = true := by simpa using hc
  clear hc
  have HB := Lib.hid hb
  clear hb
  have T0 := Lib.hid ((below_alloc w (.cells #[.int .i64 n, .int .i64 r0, .int .i64 r1, .int .i64 r2, .int .i64 r3, .int .i64 r4, .int .i64 f] 26)).alloc (by rw [size_alloc]; omega) (.cells #[.int .i64 0, .int .i64 0, .int .i64 0, .int .i64 0, .int .i64 0, .int .i64 0, .int .i64 0] 26))
  have RA := Lib.hid (row7_alloc (row7_new w n r0 r1 r2 r3 r4 f) (.cells #[.int .i64 0, .int .i64 0, .int .i64 0, .int .i64 0, .int .i64 0, .int .i64 0, .int .i64 0] 26))
  have RO := Lib.hid (own_new (w.alloc (.cells #[.int .i64 n, .int .i64 r0, .int .i64 r1, .int .i64 r2, .int .i64 r3, .int .i64 r4, .int .i64 f] 26)) [.int .i64 0, .int .i64 0, .int .i64 0, .int .i64 0, .int .i64 0, .int .i64 0, .int .i64 0] 26)
  rw [size_alloc] at RO
  go_enter Tryd.func15, Tryd.ntmps15
  go_wp2_with (go_at_call 10; refine (HB.out _).mono ?_; rintro e w1 ⟨rfl, hb1⟩; have t1 := Lib.hid (T0.out.trans (bel_le hb1 T0.out.size)); have Ob := Lib.hid (RO.out.below hb1 RO.out.lt); clear hb1; have d0 := Ob.out.cell (j := 0) (v := .int .i64 0) rfl; have d1 := Ob.out.cell (j := 1) (v := .int .i64 0) rfl; have d2 := Ob.out.cell (j := 2) (v := .int .i64 0) rfl; have d3 := Ob.out.cell (j := 3) (v := .int .i64 0) rfl; have d4 := Ob.out.cell (j := 4) (v := .int .i64 0) rfl; have d5 := Ob.out.cell (j := 5) (v := .int .i64 0) rfl; have d6 := Ob.out.cell (j := 6) (v := .int .i64 0) rfl; have z0 := Ob.out.free 0; have z1 := Ob.out.free 1; have z2 := Ob.out.free 2; have z3 := Ob.out.free 3; have z4 := Ob.out.free 4; have z5 := Ob.out.free 5; have z6 := Ob.out.free 6)
  (try simp only [Exit.inBlock, Exit.then])
  refine bodyPost_ret (v := pair7 0 0 0 0 0 0 0 c) (by simp [results, Tryd.results15, go_sem, pair7, d0, d1, d2, d3, d4, d5, d6]) rfl ⟨rfl, below_set7 t1.out (by show w.heap.size ≤ w.heap.size + 1; omega) _ _ _ _ _ _ _⟩
set_option maxRecDepth 100000 in
set_option maxHeartbeats 2000000 in
theorem perm14_second (n r0 r1 r2 r3 r4 f c : Int) (v : Value) (zs : List Int) (hc : c ≠ 0) (hb : ∀ w : World, Calls Tryd.prog 9 #[.agg #[.int .i64 n, .int .i64 r0, .int .i64 r1, .int .i64 r2, .int .i64 r3, .int .i64 r4, .int .i64 f]] w fun e w' => e = .returned (.int .i64 0) ∧ Below w.heap.size w w')
    (hg : ∀ w : World, IntsAt w .i64 v zs → Calls Tryd.prog 31 #[.agg #[.int .i64 n, .int .i64 r0, .int .i64 r1, .int .i64 r2, .int .i64 r3, .int .i64 r4], v] w fun e w' => e = .returned (pairV 0 0 0 0 0 0 c) ∧ Below w.heap.size w w') (w : World) (hi : IntsAt w .i64 v zs) :
    Calls Tryd.prog 14 #[.agg #[.int .i64 n, .int .i64 r0, .int .i64 r1, .int .i64 r2, .int .i64 r3, .int .i64 r4, .int .i64 f], v] w fun e w' => e = .returned (pair7 0 0 0 0 0 0 0 c) ∧ Below w.heap.size w w' := by
  have e1 : (c != 0) = true := by simpa using hc
  clear hc
  have HB := Lib.hid hb
  have HG := Lib.hid hg
  unfold pairV at HG
  clear hb hg
  have T0 := Lib.hid ((below_alloc w (.cells #[.int .i64 n, .int .i64 r0, .int .i64 r1, .int .i64 r2, .int .i64 r3, .int .i64 r4, .int .i64 f] 26)).alloc (by rw [size_alloc]; omega) (.cells #[.int .i64 0, .int .i64 0, .int .i64 0, .int .i64 0, .int .i64 0, .int .i64 0, .int .i64 0] 26))
  have RA := Lib.hid (row7_alloc (row7_new w n r0 r1 r2 r3 r4 f) (.cells #[.int .i64 0, .int .i64 0, .int .i64 0, .int .i64 0, .int .i64 0, .int .i64 0, .int .i64 0] 26))
  have RO := Lib.hid (own_new (w.alloc (.cells #[.int .i64 n, .int .i64 r0, .int .i64 r1, .int .i64 r2, .int .i64 r3, .int .i64 r4, .int .i64 f] 26)) [.int .i64 0, .int .i64 0, .int .i64 0, .int .i64 0, .int .i64 0, .int .i64 0, .int .i64 0] 26)
  rw [size_alloc] at RO
  have HI := Lib.hid (hi.below T0.out)
  clear hi
  go_enter Tryd.func14, Tryd.ntmps14
  go_wp2_with (first
    | (go_at_call 9; refine (HB.out _).mono ?_; rintro e w1 ⟨rfl, hb1⟩; have t1 := Lib.hid (T0.out.trans (bel_le hb1 T0.out.size)); have Ob := Lib.hid (RO.out.below hb1 RO.out.lt); have HI1 := Lib.hid (HI.out.below hb1); have RA1 := Lib.hid (row7_below RA.out hb1); clear hb1; obtain ⟨p0, p1, p2, p3, p4, p5, p6⟩ := RA1.out)
    | (go_at_call 31; refine (HG.out _ HI1.out).mono ?_; rintro e w2 ⟨rfl, hb2⟩; have t2 := Lib.hid (t1.out.trans (bel_le hb2 t1.out.size)); have t3 := Lib.hid (t2.out.alloc t2.out.size (.cells #[.int .i64 0, .int .i64 0, .int .i64 0, .int .i64 0, .int .i64 0, .int .i64 0] 24)); have Oc := Lib.hid ((Ob.out.below hb2 Ob.out.lt).alloc (.cells #[.int .i64 0, .int .i64 0, .int .i64 0, .int .i64 0, .int .i64 0, .int .i64 0] 24)); clear hb2; have d0 := Oc.out.cell (j := 0) (v := .int .i64 0) rfl; have d1 := Oc.out.cell (j := 1) (v := .int .i64 0) rfl; have d2 := Oc.out.cell (j := 2) (v := .int .i64 0) rfl; have d3 := Oc.out.cell (j := 3) (v := .int .i64 0) rfl; have d4 := Oc.out.cell (j := 4) (v := .int .i64 0) rfl; have d5 := Oc.out.cell (j := 5) (v := .int .i64 0) rfl; have d6 := Oc.out.cell (j := 6) (v := .int .i64 0) rfl; have z0 := Oc.out.free 0; have z1 := Oc.out.free 1; have z2 := Oc.out.free 2; have z3 := Oc.out.free 3; have z4 := Oc.out.free 4; have z5 := Oc.out.free 5; have z6 := Oc.out.free 6))
  (try simp only [Exit.inBlock, Exit.then])
  refine bodyPost_ret (v := pair7 0 0 0 0 0 0 0 c) (by simp [results, Tryd.results14, go_sem, pair7, d0, d1, d2, d3, d4, d5, d6]) rfl ⟨rfl, below_set7 t3.out (by show w.heap.size ≤ w.heap.size + 1; omega) _ _ _ _ _ _ _⟩
set_option maxRecDepth 100000 in
set_option maxHeartbeats 2000000 in
theorem perm14_ok (n r0 r1 r2 r3 r4 f s0 s1 s2 s3 s4 q : Int) (v : Value) (zs : List Int) (hb : ∀ w : World, Calls Tryd.prog 9 #[.agg #[.int .i64 n, .int .i64 r0, .int .i64 r1, .int .i64 r2, .int .i64 r3, .int .i64 r4, .int .i64 f]] w fun e w' => e = .returned (.int .i64 0) ∧ Below w.heap.size w w')
    (hg : ∀ w : World, IntsAt w .i64 v zs → Calls Tryd.prog 31 #[.agg #[.int .i64 n, .int .i64 r0, .int .i64 r1, .int .i64 r2, .int .i64 r3, .int .i64 r4], v] w fun e w' => e = .returned (pairV n s0 s1 s2 s3 s4 0) ∧ Below w.heap.size w w')
    (hs : ∀ w : World, IntsAt w .i64 v zs → Calls Tryd.prog 32 #[v, .int .i64 f] w fun e w' => e = .returned (.tuple #[.int .i64 q, .int .i64 0]) ∧ w = w') (w : World) (hi : IntsAt w .i64 v zs) :
    Calls Tryd.prog 14 #[.agg #[.int .i64 n, .int .i64 r0, .int .i64 r1, .int .i64 r2, .int .i64 r3, .int .i64 r4, .int .i64 f], v] w fun e w' => e = .returned (pair7 n s0 s1 s2 s3 s4 q 0) ∧ Below w.heap.size w w' := by
  have HB := Lib.hid hb
  have HG := Lib.hid hg
  have HS := Lib.hid hs
  unfold pairV at HG
  clear hb hg hs
  have T0 := Lib.hid ((below_alloc w (.cells #[.int .i64 n, .int .i64 r0, .int .i64 r1, .int .i64 r2, .int .i64 r3, .int .i64 r4, .int .i64 f] 26)).alloc (by rw [size_alloc]; omega) (.cells #[.int .i64 0, .int .i64 0, .int .i64 0, .int .i64 0, .int .i64 0, .int .i64 0, .int .i64 0] 26))
  have RA := Lib.hid (row7_alloc (row7_new w n r0 r1 r2 r3 r4 f) (.cells #[.int .i64 0, .int .i64 0, .int .i64 0, .int .i64 0, .int .i64 0, .int .i64 0, .int .i64 0] 26))
  have RO := Lib.hid (own_new (w.alloc (.cells #[.int .i64 n, .int .i64 r0, .int .i64 r1, .int .i64 r2, .int .i64 r3, .int .i64 r4, .int .i64 f] 26)) [.int .i64 0, .int .i64 0, .int .i64 0, .int .i64 0, .int .i64 0, .int .i64 0, .int .i64 0] 26)
  rw [size_alloc] at RO
  have HI := Lib.hid (hi.below T0.out)
  clear hi
  go_enter Tryd.func14, Tryd.ntmps14
  go_wp2_with (first
    | (go_at_call 9; refine (HB.out _).mono ?_; rintro e w1 ⟨rfl, hb1⟩; have t1 := Lib.hid (T0.out.trans (bel_le hb1 T0.out.size)); have Ob := Lib.hid (RO.out.below hb1 RO.out.lt); have HI1 := Lib.hid (HI.out.below hb1); have RA1 := Lib.hid (row7_below RA.out hb1); clear hb1; obtain ⟨p0, p1, p2, p3, p4, p5, p6⟩ := RA1.out)
    | (go_at_call 31; refine (HG.out _ HI1.out).mono ?_; rintro e w2 ⟨rfl, hb2⟩; have t2 := Lib.hid (t1.out.trans (bel_le hb2 t1.out.size)); have t3 := Lib.hid (t2.out.alloc t2.out.size (.cells #[.int .i64 n, .int .i64 s0, .int .i64 s1, .int .i64 s2, .int .i64 s3, .int .i64 s4] 24)); have Oc := Lib.hid ((Ob.out.below hb2 Ob.out.lt).alloc (.cells #[.int .i64 n, .int .i64 s0, .int .i64 s1, .int .i64 s2, .int .i64 s3, .int .i64 s4] 24)); have HI2 := Lib.hid ((HI1.out.below hb2).below (below_alloc w2 (.cells #[.int .i64 n, .int .i64 s0, .int .i64 s1, .int .i64 s2, .int .i64 s3, .int .i64 s4] 24))); have RA2 := Lib.hid (row7_alloc (row7_below RA1.out hb2) (.cells #[.int .i64 n, .int .i64 s0, .int .i64 s1, .int .i64 s2, .int .i64 s3, .int .i64 s4] 24)); clear hb2; obtain ⟨u0, u1, u2, u3, u4, u5, u6⟩ := RA2.out; have d0 := Oc.out.cell (j := 0) (v := .int .i64 0) rfl; have d1 := Oc.out.cell (j := 1) (v := .int .i64 0) rfl; have d2 := Oc.out.cell (j := 2) (v := .int .i64 0) rfl; have d3 := Oc.out.cell (j := 3) (v := .int .i64 0) rfl; have d4 := Oc.out.cell (j := 4) (v := .int .i64 0) rfl; have d5 := Oc.out.cell (j := 5) (v := .int .i64 0) rfl; have d6 := Oc.out.cell (j := 6) (v := .int .i64 0) rfl; have z0 := Oc.out.free 0; have z1 := Oc.out.free 1; have z2 := Oc.out.free 2; have z3 := Oc.out.free 3; have z4 := Oc.out.free 4; have z5 := Oc.out.free 5; have z6 := Oc.out.free 6)
    | (go_at_call 32; refine (HS.out _ HI2.out).mono ?_; rintro e w' ⟨rfl, rfl⟩))
  (try simp only [Exit.inBlock, Exit.then])
  refine bodyPost_ret (v := pair7 n s0 s1 s2 s3 s4 q 0) (by simp [results, Tryd.results14, go_sem, pair7, d0, d1, d2, d3, d4, d5, d6]) rfl ⟨rfl, below_set7 t3.out (by show w.heap.size ≤ w.heap.size + 1; omega) _ _ _ _ _ _ _⟩
set_option maxRecDepth 100000 in
set_option maxHeartbeats 2000000 in
theorem perm15_second (n r0 r1 r2 r3 r4 f c : Int) (v : Value) (zs : List Int) (hc : c ≠ 0) (hb : ∀ w : World, Calls Tryd.prog 10 #[.agg #[.int .i64 n, .int .i64 r0, .int .i64 r1, .int .i64 r2, .int .i64 r3, .int .i64 r4, .int .i64 f]] w fun e w' => e = .returned (.int .i64 0) ∧ Below w.heap.size w w')
    (hk : ∀ w : World, IntsAt w .i64 v zs → Calls Tryd.prog 27 #[v] w (Quiet (.int .i64 c) w)) (w : World) (hi : IntsAt w .i64 v zs) :
    Calls Tryd.prog 15 #[.agg #[.int .i64 n, .int .i64 r0, .int .i64 r1, .int .i64 r2, .int .i64 r3, .int .i64 r4, .int .i64 f], v] w fun e w' => e = .returned (pair7 0 0 0 0 0 0 0 c) ∧ Below w.heap.size w w' := by
  have e1 : (c != 0) = true := by simpa using hc
  clear hc
  have HB := Lib.hid hb
  have HK := Lib.hid hk
  clear hb hk
  have T0 := Lib.hid ((below_alloc w (.cells #[.int .i64 n, .int .i64 r0, .int .i64 r1, .int .i64 r2, .int .i64 r3, .int .i64 r4, .int .i64 f] 26)).alloc (by rw [size_alloc]; omega) (.cells #[.int .i64 0, .int .i64 0, .int .i64 0, .int .i64 0, .int .i64 0, .int .i64 0, .int .i64 0] 26))
  have RA := Lib.hid (row7_alloc (row7_new w n r0 r1 r2 r3 r4 f) (.cells #[.int .i64 0, .int .i64 0, .int .i64 0, .int .i64 0, .int .i64 0, .int .i64 0, .int .i64 0] 26))
  have RO := Lib.hid (own_new (w.alloc (.cells #[.int .i64 n, .int .i64 r0, .int .i64 r1, .int .i64 r2, .int .i64 r3, .int .i64 r4, .int .i64 f] 26)) [.int .i64 0, .int .i64 0, .int .i64 0, .int .i64 0, .int .i64 0, .int .i64 0, .int .i64 0] 26)
  rw [size_alloc] at RO
  have HI := Lib.hid (hi.below T0.out)
  clear hi
  go_enter Tryd.func15, Tryd.ntmps15
  go_wp2_with (first
    | (go_at_call 10; refine (HB.out _).mono ?_; rintro e w1 ⟨rfl, hb1⟩; have t1 := Lib.hid (T0.out.trans (bel_le hb1 T0.out.size)); have Ob := Lib.hid (RO.out.below hb1 RO.out.lt); have HI1 := Lib.hid (HI.out.below hb1); clear hb1)
    | (go_at_call 27; refine (HK.out _ HI1.out).mono ?_; rintro e w2 ⟨rfl, m, rfl⟩; have t2 := Lib.hid (below_drewN t1.out m); have Oc := Lib.hid (Ob.out.drewN m); have d0 := Oc.out.cell (j := 0) (v := .int .i64 0) rfl; have d1 := Oc.out.cell (j := 1) (v := .int .i64 0) rfl; have d2 := Oc.out.cell (j := 2) (v := .int .i64 0) rfl; have d3 := Oc.out.cell (j := 3) (v := .int .i64 0) rfl; have d4 := Oc.out.cell (j := 4) (v := .int .i64 0) rfl; have d5 := Oc.out.cell (j := 5) (v := .int .i64 0) rfl; have d6 := Oc.out.cell (j := 6) (v := .int .i64 0) rfl; have z0 := Oc.out.free 0; have z1 := Oc.out.free 1; have z2 := Oc.out.free 2; have z3 := Oc.out.free 3; have z4 := Oc.out.free 4; have z5 := Oc.out.free 5; have z6 := Oc.out.free 6))
  (try simp only [Exit.inBlock, Exit.then])
  refine bodyPost_ret (v := pair7 0 0 0 0 0 0 0 c) (by simp [results, Tryd.results15, go_sem, pair7, d0, d1, d2, d3, d4, d5, d6]) rfl ⟨rfl, below_set7 t2.out (by show w.heap.size ≤ w.heap.size + 1; omega) _ _ _ _ _ _ _⟩
set_option maxRecDepth 100000 in
set_option maxHeartbeats 2000000 in
theorem perm15_third (n r0 r1 r2 r3 r4 f : Int) (p : Option Addr) (len cap : Nat) (zs : List Int) (hne : (len : Int) ≠ n) (hb : ∀ w : World, Calls Tryd.prog 10 #[.agg #[.int .i64 n, .int .i64 r0, .int .i64 r1, .int .i64 r2, .int .i64 r3, .int .i64 r4, .int .i64 f]] w fun e w' => e = .returned (.int .i64 0) ∧ Below w.heap.size w w')
    (hk : ∀ w : World, IntsAt w .i64 (.slice p len cap) zs → Calls Tryd.prog 27 #[.slice p len cap] w (Quiet (.int .i64 0) w)) (w : World) (hi : IntsAt w .i64 (.slice p len cap) zs) :
    Calls Tryd.prog 15 #[.agg #[.int .i64 n, .int .i64 r0, .int .i64 r1, .int .i64 r2, .int .i64 r3, .int .i64 r4, .int .i64 f], .slice p len cap] w fun e w' => e = .returned (pair7 0 0 0 0 0 0 0 22) ∧ Below w.heap.size w w' := by
  have e1 : ((len : Int) != n) = true := bne_iff_ne.2 hne
  clear hne
  have HB := Lib.hid hb
  have HK := Lib.hid hk
  clear hb hk
  have T0 := Lib.hid ((below_alloc w (.cells #[.int .i64 n, .int .i64 r0, .int .i64 r1, .int .i64 r2, .int .i64 r3, .int .i64 r4, .int .i64 f] 26)).alloc (by rw [size_alloc]; omega) (.cells #[.int .i64 0, .int .i64 0, .int .i64 0, .int .i64 0, .int .i64 0, .int .i64 0, .int .i64 0] 26))
  have RA := Lib.hid (row7_alloc (row7_new w n r0 r1 r2 r3 r4 f) (.cells #[.int .i64 0, .int .i64 0, .int .i64 0, .int .i64 0, .int .i64 0, .int .i64 0, .int .i64 0] 26))
  have RO := Lib.hid (own_new (w.alloc (.cells #[.int .i64 n, .int .i64 r0, .int .i64 r1, .int .i64 r2, .int .i64 r3, .int .i64 r4, .int .i64 f] 26)) [.int .i64 0, .int .i64 0, .int .i64 0, .int .i64 0, .int .i64 0, .int .i64 0, .int .i64 0] 26)
  rw [size_alloc] at RO
  have HI := Lib.hid (hi.below T0.out)
  clear hi
  go_enter Tryd.func15, Tryd.ntmps15
  go_wp2_with (first
    | (go_at_call 10; refine (HB.out _).mono ?_; rintro e w1 ⟨rfl, hb1⟩; have t1 := Lib.hid (T0.out.trans (bel_le hb1 T0.out.size)); have Ob := Lib.hid (RO.out.below hb1 RO.out.lt); have HI1 := Lib.hid (HI.out.below hb1); have RA1 := Lib.hid (row7_below RA.out hb1); clear hb1)
    | (go_at_call 27; refine (HK.out _ HI1.out).mono ?_; rintro e w2 ⟨rfl, m, rfl⟩; have t2 := Lib.hid (below_drewN t1.out m); have Oc := Lib.hid (Ob.out.drewN m); have d0 := Oc.out.cell (j := 0) (v := .int .i64 0) rfl; have d1 := Oc.out.cell (j := 1) (v := .int .i64 0) rfl; have d2 := Oc.out.cell (j := 2) (v := .int .i64 0) rfl; have d3 := Oc.out.cell (j := 3) (v := .int .i64 0) rfl; have d4 := Oc.out.cell (j := 4) (v := .int .i64 0) rfl; have d5 := Oc.out.cell (j := 5) (v := .int .i64 0) rfl; have d6 := Oc.out.cell (j := 6) (v := .int .i64 0) rfl; have z0 := Oc.out.free 0; have z1 := Oc.out.free 1; have z2 := Oc.out.free 2; have z3 := Oc.out.free 3; have z4 := Oc.out.free 4; have z5 := Oc.out.free 5; have z6 := Oc.out.free 6; obtain ⟨p0, p1, p2, p3, p4, p5, p6⟩ := row7_below RA1.out (below_drewN (Below.refl _ _) m)))
  (try simp only [Exit.inBlock, Exit.then])
  refine bodyPost_ret (v := pair7 0 0 0 0 0 0 0 22) (by simp [results, Tryd.results15, go_sem, pair7, d0, d1, d2, d3, d4, d5, d6]) rfl ⟨rfl, below_set7 t2.out (by show w.heap.size ≤ w.heap.size + 1; omega) _ _ _ _ _ _ _⟩
set_option maxRecDepth 100000 in
set_option maxHeartbeats 2000000 in
theorem perm15_ok (n r0 r1 r2 r3 r4 f s0 s1 s2 s3 s4 q : Int) (p : Option Addr) (len cap : Nat) (zs : List Int) (hl : (len : Int) = n) (hb : ∀ w : World, Calls Tryd.prog 10 #[.agg #[.int .i64 n, .int .i64 r0, .int .i64 r1, .int .i64 r2, .int .i64 r3, .int .i64 r4, .int .i64 f]] w fun e w' => e = .returned (.int .i64 0) ∧ Below w.heap.size w w')
    (hk : ∀ w : World, IntsAt w .i64 (.slice p len cap) zs → Calls Tryd.prog 27 #[.slice p len cap] w (Quiet (.int .i64 0) w))
    (hr : ∀ w : World, IntsAt w .i64 (.slice p len cap) zs → Calls Tryd.prog 46 #[.agg #[.int .i64 n, .int .i64 r0, .int .i64 r1, .int .i64 r2, .int .i64 r3, .int .i64 r4, .int .i64 f], .slice p len cap] w fun e w' => e = .returned (.agg #[.int .i64 n, .int .i64 s0, .int .i64 s1, .int .i64 s2, .int .i64 s3, .int .i64 s4, .int .i64 q]) ∧ Below w.heap.size w w') (w : World) (hi : IntsAt w .i64 (.slice p len cap) zs) :
    Calls Tryd.prog 15 #[.agg #[.int .i64 n, .int .i64 r0, .int .i64 r1, .int .i64 r2, .int .i64 r3, .int .i64 r4, .int .i64 f], .slice p len cap] w fun e w' => e = .returned (pair7 n s0 s1 s2 s3 s4 q 0) ∧ Below w.heap.size w w' := by
  have e1 : ((len : Int) != n) = false := by simp [hl]
  clear hl
  have HB := Lib.hid hb
  have HK := Lib.hid hk
  have HRn := Lib.hid hr
  clear hb hk hr
  have T0 := Lib.hid ((below_alloc w (.cells #[.int .i64 n, .int .i64 r0, .int .i64 r1, .int .i64 r2, .int .i64 r3, .int .i64 r4, .int .i64 f] 26)).alloc (by rw [size_alloc]; omega) (.cells #[.int .i64 0, .int .i64 0, .int .i64 0, .int .i64 0, .int .i64 0, .int .i64 0, .int .i64 0] 26))
  have RA := Lib.hid (row7_alloc (row7_new w n r0 r1 r2 r3 r4 f) (.cells #[.int .i64 0, .int .i64 0, .int .i64 0, .int .i64 0, .int .i64 0, .int .i64 0, .int .i64 0] 26))
  have RO := Lib.hid (own_new (w.alloc (.cells #[.int .i64 n, .int .i64 r0, .int .i64 r1, .int .i64 r2, .int .i64 r3, .int .i64 r4, .int .i64 f] 26)) [.int .i64 0, .int .i64 0, .int .i64 0, .int .i64 0, .int .i64 0, .int .i64 0, .int .i64 0] 26)
  rw [size_alloc] at RO
  have HI := Lib.hid (hi.below T0.out)
  clear hi
  go_enter Tryd.func15, Tryd.ntmps15
  go_wp2_with (first
    | (go_at_call 10; refine (HB.out _).mono ?_; rintro e w1 ⟨rfl, hb1⟩; have t1 := Lib.hid (T0.out.trans (bel_le hb1 T0.out.size)); have Ob := Lib.hid (RO.out.below hb1 RO.out.lt); have HI1 := Lib.hid (HI.out.below hb1); have RA1 := Lib.hid (row7_below RA.out hb1); clear hb1)
    | (go_at_call 27; refine (HK.out _ HI1.out).mono ?_; rintro e w2 ⟨rfl, m, rfl⟩; have t2 := Lib.hid (below_drewN t1.out m); have Oc := Lib.hid (Ob.out.drewN m); have HI2 := Lib.hid (HI1.out.drewN m); obtain ⟨p0, p1, p2, p3, p4, p5, p6⟩ := row7_below RA1.out (below_drewN (Below.refl _ _) m))
    | (go_at_call 46; refine (HRn.out _ HI2.out).mono ?_; rintro e w3 ⟨rfl, hb3⟩; have t3 := Lib.hid (t2.out.trans (bel_le hb3 t2.out.size)); have Od := Lib.hid (Oc.out.below hb3 Oc.out.lt); clear hb3; have d0 := Od.out.cell (j := 0) (v := .int .i64 0) rfl; have d1 := Od.out.cell (j := 1) (v := .int .i64 0) rfl; have d2 := Od.out.cell (j := 2) (v := .int .i64 0) rfl; have d3 := Od.out.cell (j := 3) (v := .int .i64 0) rfl; have d4 := Od.out.cell (j := 4) (v := .int .i64 0) rfl; have d5 := Od.out.cell (j := 5) (v := .int .i64 0) rfl; have d6 := Od.out.cell (j := 6) (v := .int .i64 0) rfl; have z0 := Od.out.free 0; have z1 := Od.out.free 1; have z2 := Od.out.free 2; have z3 := Od.out.free 3; have z4 := Od.out.free 4; have z5 := Od.out.free 5; have z6 := Od.out.free 6))
  (try simp only [Exit.inBlock, Exit.then])
  refine bodyPost_ret (v := pair7 n s0 s1 s2 s3 s4 q 0) (by simp [results, Tryd.results15, go_sem, pair7, d0, d1, d2, d3, d4, d5, d6]) rfl ⟨rfl, below_set7 t3.out (by show w.heap.size ≤ w.heap.size + 1; omega) _ _ _ _ _ _ _⟩
end Go.Proofs.YtlineonmpbdkgaaDoor.Graph
namespace Go.Proofs.YtlineonmpbdkgaaDoor.Graph
open Go Go.RowKit Go.Graph Go.Law Go.Ev
open Go.Proofs.YtlineonmpbdkgaaDoor.Col
open Go.Proofs.YtlineonmpbdkgaaDoor.Ev (tabs Len awake)
open Go.Proofs.YtlineonmpbdkgaaDoor.Perm (Quiet check_ints rcheck_ints set_ints setR image_any)

@[reducible] def Zero7 (w : World) (B : Nat) : Prop := (w.cell? ⟨B, 0, none⟩ = some (.int .i64 0) ∧ w.cell? ⟨B, 1, none⟩ = some (.int .i64 0) ∧ w.cell? ⟨B, 2, none⟩ = some (.int .i64 0) ∧ w.cell? ⟨B, 3, none⟩ = some (.int .i64 0) ∧ w.cell? ⟨B, 4, none⟩ = some (.int .i64 0) ∧ w.cell? ⟨B, 5, none⟩ = some (.int .i64 0) ∧ w.cell? ⟨B, 6, none⟩ = some (.int .i64 0)) ∧ (w.frozen? ⟨B, 0, none⟩ = false ∧ w.frozen? ⟨B, 1, none⟩ = false ∧ w.frozen? ⟨B, 2, none⟩ = false ∧ w.frozen? ⟨B, 3, none⟩ = false ∧ w.frozen? ⟨B, 4, none⟩ = false ∧ w.frozen? ⟨B, 5, none⟩ = false ∧ w.frozen? ⟨B, 6, none⟩ = false)
theorem zero7_of {w : World} {B : Nat} (h : Own w B 26 [.int .i64 0, .int .i64 0, .int .i64 0, .int .i64 0, .int .i64 0, .int .i64 0, .int .i64 0]) : Zero7 w B :=
  ⟨⟨h.cell (j := 0) rfl, h.cell (j := 1) rfl, h.cell (j := 2) rfl, h.cell (j := 3) rfl, h.cell (j := 4) rfl, h.cell (j := 5) rfl, h.cell (j := 6) rfl⟩, h.free 0, h.free 1, h.free 2, h.free 3, h.free 4, h.free 5, h.free 6⟩
theorem zero7_below {w w' : World} {B : Nat} (h : Zero7 w B) (hb : Below w.heap.size w w') : Zero7 w' B :=
  have hl : B < w.heap.size := cell_lt h.1.1
  ⟨⟨(hb.cell hl).trans h.1.1, (hb.cell hl).trans h.1.2.1, (hb.cell hl).trans h.1.2.2.1, (hb.cell hl).trans h.1.2.2.2.1, (hb.cell hl).trans h.1.2.2.2.2.1, (hb.cell hl).trans h.1.2.2.2.2.2.1, (hb.cell hl).trans h.1.2.2.2.2.2.2⟩, (hb.frozen hl).trans h.2.1, (hb.frozen hl).trans h.2.2.1, (hb.frozen hl).trans h.2.2.2.1, (hb.frozen hl).trans h.2.2.2.2.1, (hb.frozen hl).trans h.2.2.2.2.2.1, (hb.frozen hl).trans h.2.2.2.2.2.2.1, (hb.frozen hl).trans h.2.2.2.2.2.2.2⟩
theorem keepZ {w w' : World} {X Y : Nat} {n r0 r1 r2 r3 r4 f : Int} (h : Row7 w X n r0 r1 r2 r3 r4 f ∧ Zero7 w Y) (hb : Below w.heap.size w w') : Row7 w' X n r0 r1 r2 r3 r4 f ∧ Zero7 w' Y := ⟨row7_below h.1 hb, zero7_below h.2 hb⟩
set_option maxRecDepth 100000 in
set_option maxHeartbeats 2000000 in
theorem renamed46 (n r0 r1 r2 r3 r4 f s0 s1 s2 s3 s4 q : Int) (v : Value) (zs : List Int)
    (hg : ∀ w : World, IntsAt w .i64 v zs → Calls Tryd.prog 69 #[.agg #[.int .i64 n, .int .i64 r0, .int .i64 r1, .int .i64 r2, .int .i64 r3, .int .i64 r4], v] w fun e w' => e = .returned (.agg #[.int .i64 n, .int .i64 s0, .int .i64 s1, .int .i64 s2, .int .i64 s3, .int .i64 s4]) ∧ Below w.heap.size w w')
    (hs : ∀ w : World, IntsAt w .i64 v zs → Calls Tryd.prog 70 #[v, .int .i64 f] w fun e w' => e = .returned (.int .i64 q) ∧ w = w') (w : World) (hi : IntsAt w .i64 v zs) :
    Calls Tryd.prog 46 #[.agg #[.int .i64 n, .int .i64 r0, .int .i64 r1, .int .i64 r2, .int .i64 r3, .int .i64 r4, .int .i64 f], v] w fun e w' => e = .returned (.agg #[.int .i64 n, .int .i64 s0, .int .i64 s1, .int .i64 s2, .int .i64 s3, .int .i64 s4, .int .i64 q]) ∧ Below w.heap.size w w' := by
  have HG := Lib.hid hg
  have HS := Lib.hid hs
  have HI := Lib.hid (fun (W : World) (hb : Below w.heap.size w W) => hi.below hb)
  clear hg hs hi
  have T0 := Lib.hid ((below_alloc w (.cells #[.int .i64 n, .int .i64 r0, .int .i64 r1, .int .i64 r2, .int .i64 r3, .int .i64 r4, .int .i64 f] 26)).alloc (by rw [size_alloc]; omega) (.cells #[.int .i64 0, .int .i64 0, .int .i64 0, .int .i64 0, .int .i64 0, .int .i64 0, .int .i64 0] 26))
  have RA := Lib.hid (row7_alloc (row7_new w n r0 r1 r2 r3 r4 f) (.cells #[.int .i64 0, .int .i64 0, .int .i64 0, .int .i64 0, .int .i64 0, .int .i64 0, .int .i64 0] 26))
  have RO := Lib.hid (own_new (w.alloc (.cells #[.int .i64 n, .int .i64 r0, .int .i64 r1, .int .i64 r2, .int .i64 r3, .int .i64 r4, .int .i64 f] 26)) [.int .i64 0, .int .i64 0, .int .i64 0, .int .i64 0, .int .i64 0, .int .i64 0, .int .i64 0] 26)
  rw [size_alloc] at RO
  have HR := Lib.hid (show Row7 ((w.alloc (.cells #[.int .i64 n, .int .i64 r0, .int .i64 r1, .int .i64 r2, .int .i64 r3, .int .i64 r4, .int .i64 f] 26)).alloc (.cells #[.int .i64 0, .int .i64 0, .int .i64 0, .int .i64 0, .int .i64 0, .int .i64 0, .int .i64 0] 26)) w.heap.size n r0 r1 r2 r3 r4 f ∧ Zero7 ((w.alloc (.cells #[.int .i64 n, .int .i64 r0, .int .i64 r1, .int .i64 r2, .int .i64 r3, .int .i64 r4, .int .i64 f] 26)).alloc (.cells #[.int .i64 0, .int .i64 0, .int .i64 0, .int .i64 0, .int .i64 0, .int .i64 0, .int .i64 0] 26)) (w.heap.size + 1) from ⟨RA.out, zero7_of RO.out⟩)
  clear RA RO
  go_enter Tryd.func46, Tryd.ntmps46
  go_wp2
  generalize hW2 : World.alloc (World.alloc w _) _ = W2 at *
  have hsd := HR.out
  obtain ⟨⟨a0, a1, a2, a3, a4, a5, a6⟩, _⟩ := hsd
  refine wp_region_any (by kernel_rfl) ?_
  change wpAny _ _ _ _ _ _ _ (World.drew _)
  refine wpAny_take (i := 0) (v := .pointer (some ⟨w.heap.size, 0, none⟩)) rfl (by kernel_rfl) (by kernel_rfl) (by kernel_rfl) (fun _ _ _ h => h) (Or.inl ⟨by kernel_rfl, fun w => by go_simp⟩) ?_
  (try go_simp)
  refine wpAny_take (i := 2) (v := v) rfl (by kernel_rfl) (by kernel_rfl) (by kernel_rfl) (fun _ _ _ h => h) (Or.inl ⟨by kernel_rfl, fun w => by go_simp⟩) ?_
  (try go_simp)
  refine wpAny_take (i := 4) (v := v) rfl (by kernel_rfl) (by kernel_rfl) (by kernel_rfl) (fun _ _ _ h => h) (Or.inl ⟨by kernel_rfl, fun w => by go_simp⟩) ?_
  (try go_simp)
  refine wpAny_take (i := 5) (v := .pointer (some ⟨w.heap.size, 6, none⟩)) rfl (by kernel_rfl) (by kernel_rfl) (by kernel_rfl) (fun _ _ _ h => h) (Or.inl ⟨by kernel_rfl, fun w => by go_simp⟩) ?_
  (try go_simp)
  refine wpAny_ready (rs := [1, 6]) (by kernel_rfl) (by simp) ?_
  refine (AllReady.cons rfl (fun K hK => ?_) (AllReady.cons rfl (fun K hK => ?_) AllReady.nil))
  · go_simp
    refine hK _ _ ?_
    clear hK K
    refine wpAny_ready (rs := [3, 6]) (by kernel_rfl) (by simp) ?_
    refine (AllReady.cons rfl (fun K hK => ?_) (AllReady.cons rfl (fun K hK => ?_) AllReady.nil))
    · go_simp
      go_wp2_with (go_at_call 69; refine (HG.out _ (HI.out _ T0.out.drew)).mono ?_; rintro e w1 ⟨rfl, hb69⟩; have T1 := Lib.hid (T0.out.drew.trans (bel_le hb69 T0.out.drew.size)); have K1 := Lib.hid (keepZ (show Row7 W2.drew w.heap.size n r0 r1 r2 r3 r4 f ∧ Zero7 W2.drew (w.heap.size + 1) from HR.out) hb69); clear hb69; obtain ⟨⟨x0, x1, x2, x3, x4, x5, x6⟩, ⟨y0, y1, y2, y3, y4, y5, y6⟩, z0, z1, z2, z3, z4, z5, z6⟩ := K1.out)
      refine wpAny_ready (rs := [6]) (by kernel_rfl) (by simp) ?_
      refine (AllReady.cons rfl (fun K hK => ?_) AllReady.nil)
      go_simp
      refine hK _ _ ?_
      clear hK K
      refine wpAny_ready (rs := [7]) (by kernel_rfl) (by simp) ?_
      refine (AllReady.cons rfl (fun K hK => ?_) AllReady.nil)
      go_simp
      go_wp2_with (go_at_call 70; refine (HS.out _ (HI.out _ T1.out)).mono ?_; rintro e w' ⟨rfl, rfl⟩)
      refine wpAny_take (i := 8) (v := .agg #[.int .i64 n, .int .i64 s0, .int .i64 s1, .int .i64 s2, .int .i64 s3, .int .i64 s4, .int .i64 q]) rfl (by kernel_rfl) (by kernel_rfl) (by kernel_rfl) (fun _ _ _ h => h) (Or.inl ⟨by kernel_rfl, fun w => by go_simp⟩) ?_
      (try go_simp)
      refine wpAny_ready (rs := [9]) (by kernel_rfl) (by simp) ?_
      refine (AllReady.cons rfl (fun K hK => ?_) AllReady.nil)
      go_simp
      refine hK _ _ ?_
      clear hK K
      refine wpAny_done (by kernel_rfl) ?_ _
      go_wp2
      (try simp only [Exit.inBlock, Exit.then])
      refine bodyPost_ret (v := .agg #[.int .i64 n, .int .i64 s0, .int .i64 s1, .int .i64 s2, .int .i64 s3, .int .i64 s4, .int .i64 q]) (by simp [results, Tryd.results46, go_sem, y0, y1, y2, y3, y4, y5, y6]) rfl ⟨rfl, below_set7 T1.out (by show w.heap.size ≤ w.heap.size + 1; omega) _ _ _ _ _ _ _⟩
    · go_simp
      refine hK _ _ ?_
      clear hK K
      refine wpAny_ready (rs := [3]) (by kernel_rfl) (by simp) ?_
      refine (AllReady.cons rfl (fun K hK => ?_) AllReady.nil)
      go_simp
      go_wp2_with (go_at_call 69; refine (HG.out _ (HI.out _ T0.out.drew)).mono ?_; rintro e w1 ⟨rfl, hb69⟩; have T1 := Lib.hid (T0.out.drew.trans (bel_le hb69 T0.out.drew.size)); have K1 := Lib.hid (keepZ (show Row7 W2.drew w.heap.size n r0 r1 r2 r3 r4 f ∧ Zero7 W2.drew (w.heap.size + 1) from HR.out) hb69); clear hb69; obtain ⟨⟨x0, x1, x2, x3, x4, x5, x6⟩, ⟨y0, y1, y2, y3, y4, y5, y6⟩, z0, z1, z2, z3, z4, z5, z6⟩ := K1.out)
      refine wpAny_ready (rs := [7]) (by kernel_rfl) (by simp) ?_
      refine (AllReady.cons rfl (fun K hK => ?_) AllReady.nil)
      go_simp
      go_wp2_with (go_at_call 70; refine (HS.out _ (HI.out _ T1.out)).mono ?_; rintro e w' ⟨rfl, rfl⟩)
      refine wpAny_take (i := 8) (v := .agg #[.int .i64 n, .int .i64 s0, .int .i64 s1, .int .i64 s2, .int .i64 s3, .int .i64 s4, .int .i64 q]) rfl (by kernel_rfl) (by kernel_rfl) (by kernel_rfl) (fun _ _ _ h => h) (Or.inl ⟨by kernel_rfl, fun w => by go_simp⟩) ?_
      (try go_simp)
      refine wpAny_ready (rs := [9]) (by kernel_rfl) (by simp) ?_
      refine (AllReady.cons rfl (fun K hK => ?_) AllReady.nil)
      go_simp
      refine hK _ _ ?_
      clear hK K
      refine wpAny_done (by kernel_rfl) ?_ _
      go_wp2
      (try simp only [Exit.inBlock, Exit.then])
      refine bodyPost_ret (v := .agg #[.int .i64 n, .int .i64 s0, .int .i64 s1, .int .i64 s2, .int .i64 s3, .int .i64 s4, .int .i64 q]) (by simp [results, Tryd.results46, go_sem, y0, y1, y2, y3, y4, y5, y6]) rfl ⟨rfl, below_set7 T1.out (by show w.heap.size ≤ w.heap.size + 1; omega) _ _ _ _ _ _ _⟩
  · go_simp
    refine hK _ _ ?_
    clear hK K
    refine wpAny_ready (rs := [1]) (by kernel_rfl) (by simp) ?_
    refine (AllReady.cons rfl (fun K hK => ?_) AllReady.nil)
    go_simp
    refine hK _ _ ?_
    clear hK K
    refine wpAny_ready (rs := [3]) (by kernel_rfl) (by simp) ?_
    refine (AllReady.cons rfl (fun K hK => ?_) AllReady.nil)
    go_simp
    go_wp2_with (go_at_call 69; refine (HG.out _ (HI.out _ T0.out.drew)).mono ?_; rintro e w1 ⟨rfl, hb69⟩; have T1 := Lib.hid (T0.out.drew.trans (bel_le hb69 T0.out.drew.size)); have K1 := Lib.hid (keepZ (show Row7 W2.drew w.heap.size n r0 r1 r2 r3 r4 f ∧ Zero7 W2.drew (w.heap.size + 1) from HR.out) hb69); clear hb69; obtain ⟨⟨x0, x1, x2, x3, x4, x5, x6⟩, ⟨y0, y1, y2, y3, y4, y5, y6⟩, z0, z1, z2, z3, z4, z5, z6⟩ := K1.out)
    refine wpAny_ready (rs := [7]) (by kernel_rfl) (by simp) ?_
    refine (AllReady.cons rfl (fun K hK => ?_) AllReady.nil)
    go_simp
    go_wp2_with (go_at_call 70; refine (HS.out _ (HI.out _ T1.out)).mono ?_; rintro e w' ⟨rfl, rfl⟩)
    refine wpAny_take (i := 8) (v := .agg #[.int .i64 n, .int .i64 s0, .int .i64 s1, .int .i64 s2, .int .i64 s3, .int .i64 s4, .int .i64 q]) rfl (by kernel_rfl) (by kernel_rfl) (by kernel_rfl) (fun _ _ _ h => h) (Or.inl ⟨by kernel_rfl, fun w => by go_simp⟩) ?_
    (try go_simp)
    refine wpAny_ready (rs := [9]) (by kernel_rfl) (by simp) ?_
    refine (AllReady.cons rfl (fun K hK => ?_) AllReady.nil)
    go_simp
    refine hK _ _ ?_
    clear hK K
    refine wpAny_done (by kernel_rfl) ?_ _
    go_wp2
    (try simp only [Exit.inBlock, Exit.then])
    refine bodyPost_ret (v := .agg #[.int .i64 n, .int .i64 s0, .int .i64 s1, .int .i64 s2, .int .i64 s3, .int .i64 s4, .int .i64 q]) (by simp [results, Tryd.results46, go_sem, y0, y1, y2, y3, y4, y5, y6]) rfl ⟨rfl, below_set7 T1.out (by show w.heap.size ≤ w.heap.size + 1; omega) _ _ _ _ _ _ _⟩
end Go.Proofs.YtlineonmpbdkgaaDoor.Graph
namespace Go.Proofs.YtlineonmpbdkgaaDoor.Graph
open Go Go.RowKit Go.Graph Go.Law Go.Ev
open Go.Proofs.YtlineonmpbdkgaaDoor.Col
open Go.Proofs.YtlineonmpbdkgaaDoor.Ev (tabs Len awake)
open Go.Proofs.YtlineonmpbdkgaaDoor.Perm (Quiet check_ints rcheck_ints set_ints setR image_any)

theorem rcheck_zero {n f : Int} {r0 r1 r2 r3 r4 : Int} (h : rcheck n [r0, r1, r2, r3, r4] f = 0) : ∃ (k q : Nat) (a : Nat → Nat), WF k a ∧ n = k ∧ r0 = a 0 ∧ r1 = a 1 ∧ r2 = a 2 ∧ r3 = a 3 ∧ r4 = a 4 ∧ f = q ∧ q < 2 ^ k := by
  unfold rcheck at h
  by_cases hc : check n [r0, r1, r2, r3, r4] = 0
  · rw [if_neg (by omega)] at h
    obtain ⟨h1, h5⟩ := check_size hc
    obtain ⟨k, rfl⟩ := Int.eq_ofNat_of_zero_le (show 0 ≤ n by omega)
    unfold check at hc
    rw [if_neg (by omega), Int.toNat_natCast] at hc
    obtain ⟨a, ha, e0, e1, e2, e3, e4⟩ := wf_of (by omega) (by omega) hc
    rw [Int.toNat_natCast] at h
    by_cases hf : f < 0 ∨ ((2 ^ k : Nat) : Int) ≤ f
    · rw [if_pos hf] at h; omega
    · obtain ⟨q, rfl⟩ := Int.eq_ofNat_of_zero_le (show 0 ≤ f by omega)
      exact ⟨k, q, a, ha, rfl, e0, e1, e2, e3, e4, rfl, by omega⟩
  · rw [if_pos hc] at h; exact absurd h hc
theorem ints_form {W : World} {p : Option Addr} {n cap : Nat} {zs : List Int} (h : IntsAt W .i64 (.slice p n cap) zs) (h0 : 0 < zs.length) : ∃ b off, p = some ⟨b, off, none⟩ ∧ zs.length = n ∧ n ≤ cap ∧ b < W.heap.size ∧ At W b off zs := by
  obtain ⟨a', cap', e, h1, _, h3⟩ := h
  cases e
  rcases h3 with rfl | ⟨b, off, rfl, hb, hc⟩
  · simp at h0
  · exact ⟨b, off, rfl, rfl, h1, hb, hc⟩
/-- What both give. -/
theorem permutes_any (n r0 r1 r2 r3 r4 f : Int) (p : Option Addr) (len cap : Nat) (zs : List Int) (hz : zs.length = len) : ∃ c0 c1 c2 c3 c4 c5 c6 e : Int,
    (∀ w : World, IntsAt w .i64 (.slice p len cap) zs → Calls Tryd.prog 14 #[.agg #[.int .i64 n, .int .i64 r0, .int .i64 r1, .int .i64 r2, .int .i64 r3, .int .i64 r4, .int .i64 f], .slice p len cap] w fun x w' => x = .returned (pair7 c0 c1 c2 c3 c4 c5 c6 e) ∧ Below w.heap.size w w') ∧
    (∀ w : World, IntsAt w .i64 (.slice p len cap) zs → Calls Tryd.prog 15 #[.agg #[.int .i64 n, .int .i64 r0, .int .i64 r1, .int .i64 r2, .int .i64 r3, .int .i64 r4, .int .i64 f], .slice p len cap] w fun x w' => x = .returned (pair7 c0 c1 c2 c3 c4 c5 c6 e) ∧ Below w.heap.size w w') := by
  have h9 := round_check n r0 r1 r2 r3 r4 f
  have h10 := rround_check n r0 r1 r2 r3 r4 f
  by_cases hc : rcheck n [r0, r1, r2, r3, r4] f = 0
  · rw [hc] at h9 h10
    obtain ⟨k, q, a, ha, rfl, rfl, rfl, rfl, rfl, rfl, rfl, hq⟩ := rcheck_zero hc
    have HK := fun (w : World) (h : IntsAt w .i64 (.slice p len cap) zs) => check_ints h
    have HR := fun (w : World) (h : IntsAt w .i64 (.slice p len cap) zs) => rcheck_ints h
    by_cases hk : Go.Perm.check zs = 0
    · rw [hk] at HK HR
      by_cases hl : len = k
      · subst hl
        obtain ⟨hp1, hp5, _, _⟩ := Go.Perm.check_ok hk
        refine ⟨len, (ren len a (idx zs) 0 : Nat), (ren len a (idx zs) 1 : Nat), (ren len a (idx zs) 2 : Nat), (ren len a (idx zs) 3 : Nat), (ren len a (idx zs) 4 : Nat), (Go.Perm.img q zs 0 0 : Nat), 0, fun w h => ?_, fun w h => ?_⟩
        · refine perm14_ok _ _ _ _ _ _ _ _ _ _ _ _ _ _ zs h9 (fun w h => ?_) (fun w h => ?_) w h
          · obtain ⟨b, off, rfl, e1, e2, e3, e4⟩ := ints_form h (by omega)
            refine permute_wf ha b off cap zs e1 hk e2 w e3 e4 fun w' h' => HK w' ?_
            obtain ⟨_, _, e, g1, g2, _⟩ := h
            cases e
            refine ⟨_, _, by rw [e1], by omega, g2, .inr ⟨b, off, rfl, h'.lt (by omega), h'⟩⟩
          · have := set_ints h (q : Int)
            unfold setR at this
            have hlt : ¬ ((q : Int) < 0 ∨ 2 ^ zs.length ≤ (q : Int)) := by
              rw [hz]
              have : (q : Int) < 2 ^ len := by exact_mod_cast hq
              omega
            rw [if_neg (by omega), if_neg hlt, Int.toNat_natCast] at this
            exact this
        · refine perm15_ok _ _ _ _ _ _ _ _ _ _ _ _ _ p len cap zs rfl h10 HR (fun w h => ?_) w h
          refine renamed46 _ _ _ _ _ _ _ _ _ _ _ _ _ _ zs (fun w h => ?_) (fun w h => ?_) w h
          · obtain ⟨b, off, rfl, e1, e2, e3, e4⟩ := ints_form h (by omega)
            exact renamed_wf ha b off cap zs e1 hk e2 w e3 e4
          · obtain ⟨b, off, rfl, e1, e2, e3, e4⟩ := ints_form h (by omega)
            exact image_any b off len cap zs q e1 hk e2 hq w e4
      · refine ⟨0, 0, 0, 0, 0, 0, 0, 22, fun w h => ?_, fun w h => ?_⟩
        · exact perm14_second _ _ _ _ _ _ _ 22 _ zs (by decide) h9 (fun w h => perm27_third ha p len cap zs hl HK w h) w h
        · exact perm15_third _ _ _ _ _ _ _ p len cap zs (by exact_mod_cast hl) h10 HR w h
    · refine ⟨0, 0, 0, 0, 0, 0, 0, Go.Perm.check zs, fun w h => ?_, fun w h => ?_⟩
      · exact perm14_second _ _ _ _ _ _ _ _ _ zs hk h9 (fun w h => perm27_second ha _ _ zs hk HK w h) w h
      · exact perm15_second _ _ _ _ _ _ _ _ _ zs hk h10 HR w h
  · refine ⟨0, 0, 0, 0, 0, 0, 0, rcheck n [r0, r1, r2, r3, r4] f, fun w h => ?_, fun w h => ?_⟩
    · exact perm14_first _ _ _ _ _ _ _ _ _ hc h9 w
    · exact perm15_first _ _ _ _ _ _ _ _ _ hc h10 w
set_option maxRecDepth 100000 in
set_option maxHeartbeats 2000000 in
theorem permutes_long {w : World} {e0 e1 : TypeId} (hH : Held w (tabs e0 e1)) (hM : Len w) (n r0 r1 r2 r3 r4 f : Int) (p : Option Addr) (len cap : Nat) (hl : 20 < len) :
    Calls Tryd.prog 4 #[.agg #[.int .i64 n, .int .i64 r0, .int .i64 r1, .int .i64 r2, .int .i64 r3, .int .i64 r4, .int .i64 f], .slice p len cap] w fun e w' => e = .returned (.bool true) ∧ Below w.heap.size w w' := by
  have h20 : (len : Int) > 20 := by omega
  have T0 := Lib.hid (below_alloc w (.cells #[.int .i64 n, .int .i64 r0, .int .i64 r1, .int .i64 r2, .int .i64 r3, .int .i64 r4, .int .i64 f] 26))
  have HA := Lib.hid (still_true hH hM T0.out)
  clear hH hM
  go_enter Tryd.func4, Tryd.ntmps4
  go_wp2_with (go_at_call 13; refine (HA.out).mono ?_; rintro e w1 ⟨rfl, hb1⟩; have T1 := Lib.hid (T0.out.trans (bel_le hb1 T0.out.size)))
  go_ret
  exact ⟨rfl, T1.out⟩
set_option maxRecDepth 100000 in
set_option maxHeartbeats 2000000 in
theorem permutes_short {w : World} {e0 e1 : TypeId} (hH : Held w (tabs e0 e1)) (hM : Len w) (n r0 r1 r2 r3 r4 f : Int) (p : Option Addr) (len cap : Nat) (zs : List Int) (hz : zs.length = len) (hl : ¬ 20 < len) (hi : IntsAt w .i64 (.slice p len cap) zs) :
    Calls Tryd.prog 4 #[.agg #[.int .i64 n, .int .i64 r0, .int .i64 r1, .int .i64 r2, .int .i64 r3, .int .i64 r4, .int .i64 f], .slice p len cap] w fun e w' => e = .returned (.bool true) ∧ Below w.heap.size w w' := by
  obtain ⟨c0, c1, c2, c3, c4, c5, c6, c, hp, hr⟩ := permutes_any n r0 r1 r2 r3 r4 f p len cap zs hz
  have HP := Lib.hid hp
  have HQ := Lib.hid hr
  unfold pair7 at HP HQ
  clear hp hr
  have HH := Lib.hid hH
  have HM := Lib.hid hM
  clear hH hM
  have h20 : ¬ (len : Int) > 20 := by omega
  have T0 := Lib.hid (below_alloc w (.cells #[.int .i64 n, .int .i64 r0, .int .i64 r1, .int .i64 r2, .int .i64 r3, .int .i64 r4, .int .i64 f] 26))
  have HI := Lib.hid (hi.below T0.out)
  clear hi
  have RA := Lib.hid (row7_new w n r0 r1 r2 r3 r4 f)
  have he9 := arr_known (r0 := c1) (r1 := c2) (r2 := c3) (r3 := c4) (r4 := c5) (s0 := c1) (s1 := c2) (s2 := c3) (s3 := c4) (s4 := c5) (d := true) (by simp) 9997
  have he8 := arr_known (r0 := c1) (r1 := c2) (r2 := c3) (r3 := c4) (r4 := c5) (s0 := c1) (s1 := c2) (s2 := c3) (s3 := c4) (s4 := c5) (d := true) (by simp) 9996
  have he7 := arr_known (r0 := c1) (r1 := c2) (r2 := c3) (r3 := c4) (r4 := c5) (s0 := c1) (s1 := c2) (s2 := c3) (s3 := c4) (s4 := c5) (d := true) (by simp) 9995
  go_enter Tryd.func4, Tryd.ntmps4
  go_wp2_with (first
    | (go_at_call 14; refine (HP.out _ HI.out).mono ?_; rintro e w1 ⟨rfl, hb1⟩; have T1 := Lib.hid (T0.out.trans (bel_le hb1 T0.out.size)); have T2 := Lib.hid (T1.out.alloc T1.out.size (.cells #[.int .i64 c0, .int .i64 c1, .int .i64 c2, .int .i64 c3, .int .i64 c4, .int .i64 c5, .int .i64 c6] 26)); have HI1 := Lib.hid ((HI.out.below hb1).below (below_alloc w1 (.cells #[.int .i64 c0, .int .i64 c1, .int .i64 c2, .int .i64 c3, .int .i64 c4, .int .i64 c5, .int .i64 c6] 26))); have RA1 := Lib.hid (row7_alloc (row7_below RA.out hb1) (.cells #[.int .i64 c0, .int .i64 c1, .int .i64 c2, .int .i64 c3, .int .i64 c4, .int .i64 c5, .int .i64 c6] 26)); have RC := Lib.hid (row7_new w1 c0 c1 c2 c3 c4 c5 c6); clear hb1; obtain ⟨p0, p1, p2, p3, p4, p5, p6⟩ := RA1.out)
    | (go_at_call 15; refine (HQ.out _ HI1.out).mono ?_; rintro e w2 ⟨rfl, hb2⟩; have T3 := Lib.hid (T2.out.trans (bel_le hb2 T2.out.size)); have T4 := Lib.hid (T3.out.alloc T3.out.size (.cells #[.int .i64 c0, .int .i64 c1, .int .i64 c2, .int .i64 c3, .int .i64 c4, .int .i64 c5, .int .i64 c6] 26)); have RC1 := Lib.hid (row7_alloc (row7_below RC.out hb2) (.cells #[.int .i64 c0, .int .i64 c1, .int .i64 c2, .int .i64 c3, .int .i64 c4, .int .i64 c5, .int .i64 c6] 26)); clear hb2; obtain ⟨u0, u1, u2, u3, u4, u5, u6⟩ := RC1.out)
    | (go_at_call 13; refine (still_true HH.out HM.out T4.out).mono ?_; rintro e w3 ⟨rfl, hb3⟩; have T5 := Lib.hid (T4.out.trans (bel_le hb3 T4.out.size)); clear hb3))
  go_ret
  exact ⟨rfl, T5.out⟩
theorem roundPermutes_walk {w : World} {e0 e1 : TypeId} (hH : Held w (tabs e0 e1)) (hM : Len w) (n r0 r1 r2 r3 r4 f : Int) {v : Value} {zs : List Int} (hi : IntsAt w .i64 v zs) :
    Calls Tryd.prog 4 #[.agg #[.int .i64 n, .int .i64 r0, .int .i64 r1, .int .i64 r2, .int .i64 r3, .int .i64 r4, .int .i64 f], v] w fun e w' => e = .returned (.bool true) ∧ Below w.heap.size w w' := by
  have hi' := hi
  obtain ⟨p, cap, rfl, _⟩ := hi'
  by_cases hl : 20 < zs.length
  · exact permutes_long hH hM n r0 r1 r2 r3 r4 f p _ cap hl
  · exact permutes_short hH hM n r0 r1 r2 r3 r4 f p _ cap zs rfl hl hi
end Go.Proofs.YtlineonmpbdkgaaDoor.Graph
