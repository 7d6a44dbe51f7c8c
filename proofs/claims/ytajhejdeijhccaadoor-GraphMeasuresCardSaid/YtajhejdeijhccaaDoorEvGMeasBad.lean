/-
  Errors of the measures of graphs.
-/
import Derived.Test.YtajhejdeijhccaaDoorEvGAny
namespace Go.Proofs.YtajhejdeijhccaaDoor.Graph
open Go Go.RowKit Go.Graph Go.Law
open Go.Proofs.YtajhejdeijhccaaDoor.Col

set_option maxRecDepth 100000 in
theorem bad29 (n r0 r1 r2 r3 r4 m s0 s1 s2 s3 s4 c : Int) (hc : c ≠ 0) (hb : ∀ w : World, Calls Tryd.prog 60 #[.agg #[.int .i64 n, .int .i64 r0, .int .i64 r1, .int .i64 r2, .int .i64 r3, .int .i64 r4], .agg #[.int .i64 m, .int .i64 s0, .int .i64 s1, .int .i64 s2, .int .i64 s3, .int .i64 s4]] w fun e w' => e = .returned (.int .i64 c) ∧ Below w.heap.size w w') (w : World) :
    Calls Tryd.prog 29 #[.agg #[.int .i64 n, .int .i64 r0, .int .i64 r1, .int .i64 r2, .int .i64 r3, .int .i64 r4], .agg #[.int .i64 m, .int .i64 s0, .int .i64 s1, .int .i64 s2, .int .i64 s3, .int .i64 s4]] w fun e w' => e = .returned (.tuple #[.bool false, .int .i64 c]) ∧ Below w.heap.size w w' := by
  have e1 : (c != 0) = true := by simpa using hc
  clear hc
  have HB := Lib.hid hb
  clear hb
  have T0 := Lib.hid ((below_alloc w (.cells #[.int .i64 n, .int .i64 r0, .int .i64 r1, .int .i64 r2, .int .i64 r3, .int .i64 r4] 24)).alloc (by rw [size_alloc]; omega) (.cells #[.int .i64 m, .int .i64 s0, .int .i64 s1, .int .i64 s2, .int .i64 s3, .int .i64 s4] 24))
  go_enter Tryd.func29, Tryd.ntmps29
  go_wp2_with (go_at_call 60; refine (HB.out _).mono ?_; rintro e w1 ⟨rfl, hb1⟩; have t1 := Lib.hid (T0.out.trans (bel_le hb1 T0.out.size)); clear hb1)
  go_ret2
  exact ⟨rfl, t1.out⟩
set_option maxRecDepth 100000 in
theorem bad30 (n r0 r1 r2 r3 r4 m s0 s1 s2 s3 s4 c : Int) (hc : c ≠ 0) (hb : ∀ w : World, Calls Tryd.prog 47 #[.agg #[.int .i64 n, .int .i64 r0, .int .i64 r1, .int .i64 r2, .int .i64 r3, .int .i64 r4], .agg #[.int .i64 m, .int .i64 s0, .int .i64 s1, .int .i64 s2, .int .i64 s3, .int .i64 s4]] w fun e w' => e = .returned (.int .i64 c) ∧ Below w.heap.size w w') (w : World) :
    Calls Tryd.prog 30 #[.agg #[.int .i64 n, .int .i64 r0, .int .i64 r1, .int .i64 r2, .int .i64 r3, .int .i64 r4], .agg #[.int .i64 m, .int .i64 s0, .int .i64 s1, .int .i64 s2, .int .i64 s3, .int .i64 s4]] w fun e w' => e = .returned (.tuple #[.bool false, .int .i64 c]) ∧ Below w.heap.size w w' := by
  have e1 : (c != 0) = true := by simpa using hc
  clear hc
  have HB := Lib.hid hb
  clear hb
  have T0 := Lib.hid ((below_alloc w (.cells #[.int .i64 n, .int .i64 r0, .int .i64 r1, .int .i64 r2, .int .i64 r3, .int .i64 r4] 24)).alloc (by rw [size_alloc]; omega) (.cells #[.int .i64 m, .int .i64 s0, .int .i64 s1, .int .i64 s2, .int .i64 s3, .int .i64 s4] 24))
  go_enter Tryd.func30, Tryd.ntmps30
  go_wp2_with (go_at_call 47; refine (HB.out _).mono ?_; rintro e w1 ⟨rfl, hb1⟩; have t1 := Lib.hid (T0.out.trans (bel_le hb1 T0.out.size)); clear hb1)
  go_ret2
  exact ⟨rfl, t1.out⟩
set_option maxRecDepth 100000 in
theorem bad31 (n r0 r1 r2 r3 r4 c : Int) (hc : c ≠ 0) (hb : ∀ w : World, Calls Tryd.prog 16 #[.agg #[.int .i64 n, .int .i64 r0, .int .i64 r1, .int .i64 r2, .int .i64 r3, .int .i64 r4]] w fun e w' => e = .returned (.int .i64 c) ∧ Below w.heap.size w w') (w : World) :
    Calls Tryd.prog 31 #[.agg #[.int .i64 n, .int .i64 r0, .int .i64 r1, .int .i64 r2, .int .i64 r3, .int .i64 r4]] w fun e w' => e = .returned (.tuple #[.int .i64 0, .int .i64 c]) ∧ Below w.heap.size w w' := by
  have e1 : (c != 0) = true := by simpa using hc
  clear hc
  have HB := Lib.hid hb
  clear hb
  have T0 := Lib.hid (below_alloc w (.cells #[.int .i64 n, .int .i64 r0, .int .i64 r1, .int .i64 r2, .int .i64 r3, .int .i64 r4] 24))
  go_enter Tryd.func31, Tryd.ntmps31
  go_wp2_with (go_at_call 16; refine (HB.out _).mono ?_; rintro e w1 ⟨rfl, hb1⟩; have t1 := Lib.hid (T0.out.trans (bel_le hb1 T0.out.size)); clear hb1)
  go_ret2
  exact ⟨rfl, t1.out⟩
set_option maxRecDepth 100000 in
theorem bad32 (n r0 r1 r2 r3 r4 c : Int) (hc : c ≠ 0) (hb : ∀ w : World, Calls Tryd.prog 17 #[.agg #[.int .i64 n, .int .i64 r0, .int .i64 r1, .int .i64 r2, .int .i64 r3, .int .i64 r4]] w fun e w' => e = .returned (.int .i64 c) ∧ Below w.heap.size w w') (w : World) :
    Calls Tryd.prog 32 #[.agg #[.int .i64 n, .int .i64 r0, .int .i64 r1, .int .i64 r2, .int .i64 r3, .int .i64 r4]] w fun e w' => e = .returned (.tuple #[.int .i64 0, .int .i64 c]) ∧ Below w.heap.size w w' := by
  have e1 : (c != 0) = true := by simpa using hc
  clear hc
  have HB := Lib.hid hb
  clear hb
  have T0 := Lib.hid (below_alloc w (.cells #[.int .i64 n, .int .i64 r0, .int .i64 r1, .int .i64 r2, .int .i64 r3, .int .i64 r4] 24))
  go_enter Tryd.func32, Tryd.ntmps32
  go_wp2_with (go_at_call 17; refine (HB.out _).mono ?_; rintro e w1 ⟨rfl, hb1⟩; have t1 := Lib.hid (T0.out.trans (bel_le hb1 T0.out.size)); clear hb1)
  go_ret2
  exact ⟨rfl, t1.out⟩
set_option maxRecDepth 100000 in
theorem bad33 (n r0 r1 r2 r3 r4 c : Int) (hc : c ≠ 0) (hb : ∀ w : World, Calls Tryd.prog 16 #[.agg #[.int .i64 n, .int .i64 r0, .int .i64 r1, .int .i64 r2, .int .i64 r3, .int .i64 r4]] w fun e w' => e = .returned (.int .i64 c) ∧ Below w.heap.size w w') (w : World) :
    Calls Tryd.prog 33 #[.agg #[.int .i64 n, .int .i64 r0, .int .i64 r1, .int .i64 r2, .int .i64 r3, .int .i64 r4]] w fun e w' => e = .returned (.tuple #[.int .i64 0, .int .i64 c]) ∧ Below w.heap.size w w' := by
  have e1 : (c != 0) = true := by simpa using hc
  clear hc
  have HB := Lib.hid hb
  clear hb
  have T0 := Lib.hid (below_alloc w (.cells #[.int .i64 n, .int .i64 r0, .int .i64 r1, .int .i64 r2, .int .i64 r3, .int .i64 r4] 24))
  go_enter Tryd.func33, Tryd.ntmps33
  go_wp2_with (go_at_call 16; refine (HB.out _).mono ?_; rintro e w1 ⟨rfl, hb1⟩; have t1 := Lib.hid (T0.out.trans (bel_le hb1 T0.out.size)); clear hb1)
  go_ret2
  exact ⟨rfl, t1.out⟩
set_option maxRecDepth 100000 in
theorem bad34 (n r0 r1 r2 r3 r4 c : Int) (hc : c ≠ 0) (hb : ∀ w : World, Calls Tryd.prog 17 #[.agg #[.int .i64 n, .int .i64 r0, .int .i64 r1, .int .i64 r2, .int .i64 r3, .int .i64 r4]] w fun e w' => e = .returned (.int .i64 c) ∧ Below w.heap.size w w') (w : World) :
    Calls Tryd.prog 34 #[.agg #[.int .i64 n, .int .i64 r0, .int .i64 r1, .int .i64 r2, .int .i64 r3, .int .i64 r4]] w fun e w' => e = .returned (.tuple #[.int .i64 0, .int .i64 c]) ∧ Below w.heap.size w w' := by
  have e1 : (c != 0) = true := by simpa using hc
  clear hc
  have HB := Lib.hid hb
  clear hb
  have T0 := Lib.hid (below_alloc w (.cells #[.int .i64 n, .int .i64 r0, .int .i64 r1, .int .i64 r2, .int .i64 r3, .int .i64 r4] 24))
  go_enter Tryd.func34, Tryd.ntmps34
  go_wp2_with (go_at_call 17; refine (HB.out _).mono ?_; rintro e w1 ⟨rfl, hb1⟩; have t1 := Lib.hid (T0.out.trans (bel_le hb1 T0.out.size)); clear hb1)
  go_ret2
  exact ⟨rfl, t1.out⟩
set_option maxRecDepth 100000 in
theorem bad35 (n r0 r1 r2 r3 r4 c : Int) (hc : c ≠ 0) (hb : ∀ w : World, Calls Tryd.prog 16 #[.agg #[.int .i64 n, .int .i64 r0, .int .i64 r1, .int .i64 r2, .int .i64 r3, .int .i64 r4]] w fun e w' => e = .returned (.int .i64 c) ∧ Below w.heap.size w w') (w : World) :
    Calls Tryd.prog 35 #[.agg #[.int .i64 n, .int .i64 r0, .int .i64 r1, .int .i64 r2, .int .i64 r3, .int .i64 r4]] w fun e w' => e = .returned (.tuple #[.int .i64 0, .int .i64 c]) ∧ Below w.heap.size w w' := by
  have e1 : (c != 0) = true := by simpa using hc
  clear hc
  have HB := Lib.hid hb
  clear hb
  have T0 := Lib.hid (below_alloc w (.cells #[.int .i64 n, .int .i64 r0, .int .i64 r1, .int .i64 r2, .int .i64 r3, .int .i64 r4] 24))
  go_enter Tryd.func35, Tryd.ntmps35
  go_wp2_with (go_at_call 16; refine (HB.out _).mono ?_; rintro e w1 ⟨rfl, hb1⟩; have t1 := Lib.hid (T0.out.trans (bel_le hb1 T0.out.size)); clear hb1)
  go_ret2
  exact ⟨rfl, t1.out⟩
set_option maxRecDepth 100000 in
theorem bad36 (n r0 r1 r2 r3 r4 c : Int) (hc : c ≠ 0) (hb : ∀ w : World, Calls Tryd.prog 17 #[.agg #[.int .i64 n, .int .i64 r0, .int .i64 r1, .int .i64 r2, .int .i64 r3, .int .i64 r4]] w fun e w' => e = .returned (.int .i64 c) ∧ Below w.heap.size w w') (w : World) :
    Calls Tryd.prog 36 #[.agg #[.int .i64 n, .int .i64 r0, .int .i64 r1, .int .i64 r2, .int .i64 r3, .int .i64 r4]] w fun e w' => e = .returned (.tuple #[.int .i64 0, .int .i64 c]) ∧ Below w.heap.size w w' := by
  have e1 : (c != 0) = true := by simpa using hc
  clear hc
  have HB := Lib.hid hb
  clear hb
  have T0 := Lib.hid (below_alloc w (.cells #[.int .i64 n, .int .i64 r0, .int .i64 r1, .int .i64 r2, .int .i64 r3, .int .i64 r4] 24))
  go_enter Tryd.func36, Tryd.ntmps36
  go_wp2_with (go_at_call 17; refine (HB.out _).mono ?_; rintro e w1 ⟨rfl, hb1⟩; have t1 := Lib.hid (T0.out.trans (bel_le hb1 T0.out.size)); clear hb1)
  go_ret2
  exact ⟨rfl, t1.out⟩
set_option maxRecDepth 100000 in
theorem bad37 (n r0 r1 r2 r3 r4 c : Int) (hc : c ≠ 0) (hb : ∀ w : World, Calls Tryd.prog 16 #[.agg #[.int .i64 n, .int .i64 r0, .int .i64 r1, .int .i64 r2, .int .i64 r3, .int .i64 r4]] w fun e w' => e = .returned (.int .i64 c) ∧ Below w.heap.size w w') (w : World) :
    Calls Tryd.prog 37 #[.agg #[.int .i64 n, .int .i64 r0, .int .i64 r1, .int .i64 r2, .int .i64 r3, .int .i64 r4]] w fun e w' => e = .returned (.tuple #[.bool false, .int .i64 c]) ∧ Below w.heap.size w w' := by
  have e1 : (c != 0) = true := by simpa using hc
  clear hc
  have HB := Lib.hid hb
  clear hb
  have T0 := Lib.hid (below_alloc w (.cells #[.int .i64 n, .int .i64 r0, .int .i64 r1, .int .i64 r2, .int .i64 r3, .int .i64 r4] 24))
  go_enter Tryd.func37, Tryd.ntmps37
  go_wp2_with (go_at_call 16; refine (HB.out _).mono ?_; rintro e w1 ⟨rfl, hb1⟩; have t1 := Lib.hid (T0.out.trans (bel_le hb1 T0.out.size)); clear hb1)
  go_ret2
  exact ⟨rfl, t1.out⟩
set_option maxRecDepth 100000 in
theorem bad38 (n r0 r1 r2 r3 r4 c : Int) (hc : c ≠ 0) (hb : ∀ w : World, Calls Tryd.prog 17 #[.agg #[.int .i64 n, .int .i64 r0, .int .i64 r1, .int .i64 r2, .int .i64 r3, .int .i64 r4]] w fun e w' => e = .returned (.int .i64 c) ∧ Below w.heap.size w w') (w : World) :
    Calls Tryd.prog 38 #[.agg #[.int .i64 n, .int .i64 r0, .int .i64 r1, .int .i64 r2, .int .i64 r3, .int .i64 r4]] w fun e w' => e = .returned (.tuple #[.bool false, .int .i64 c]) ∧ Below w.heap.size w w' := by
  have e1 : (c != 0) = true := by simpa using hc
  clear hc
  have HB := Lib.hid hb
  clear hb
  have T0 := Lib.hid (below_alloc w (.cells #[.int .i64 n, .int .i64 r0, .int .i64 r1, .int .i64 r2, .int .i64 r3, .int .i64 r4] 24))
  go_enter Tryd.func38, Tryd.ntmps38
  go_wp2_with (go_at_call 17; refine (HB.out _).mono ?_; rintro e w1 ⟨rfl, hb1⟩; have t1 := Lib.hid (T0.out.trans (bel_le hb1 T0.out.size)); clear hb1)
  go_ret2
  exact ⟨rfl, t1.out⟩
end Go.Proofs.YtajhejdeijhccaaDoor.Graph
