/-
  GraphMeasures answers true.
-/
import Derived.Test.YtajhejdeijhccaaDoorEvGMeasBad
import Derived.Test.YtajhejdeijhccaaDoorEvGInside
import Derived.Test.YtajhejdeijhccaaDoorEvGRoots
import Derived.Test.YtajhejdeijhccaaDoorEvGEdges
namespace Go.Proofs.YtajhejdeijhccaaDoor.Graph
open Go Go.RowKit Go.Graph Go.Law
open Go.Proofs.YtajhejdeijhccaaDoor.Col

theorem inside_any (n r0 r1 r2 r3 r4 m s0 s1 s2 s3 s4 : Int) : ∃ (x : Bool) (c : Int), (∀ w : World, Calls Tryd.prog 29 #[.agg #[.int .i64 n, .int .i64 r0, .int .i64 r1, .int .i64 r2, .int .i64 r3, .int .i64 r4], .agg #[.int .i64 m, .int .i64 s0, .int .i64 s1, .int .i64 s2, .int .i64 s3, .int .i64 s4]] w fun e w' => e = .returned (.tuple #[.bool x, .int .i64 c]) ∧ Below w.heap.size w w') ∧ (∀ w : World, Calls Tryd.prog 30 #[.agg #[.int .i64 n, .int .i64 r0, .int .i64 r1, .int .i64 r2, .int .i64 r3, .int .i64 r4], .agg #[.int .i64 m, .int .i64 s0, .int .i64 s1, .int .i64 s2, .int .i64 s3, .int .i64 s4]] w fun e w' => e = .returned (.tuple #[.bool x, .int .i64 c]) ∧ Below w.heap.size w w') := by
  rcases two_or n r0 r1 r2 r3 r4 m s0 s1 s2 s3 s4 with ⟨k, r, s, hr, hs, rfl, rfl, ⟨rfl, rfl, rfl, rfl, rfl⟩, rfl, rfl, rfl, rfl, rfl⟩ | ⟨c, hc, h1, h2⟩
  · exact ⟨_, _, inside_wf hr hs, rinside_wf hr hs⟩
  · exact ⟨_, _, bad29 _ _ _ _ _ _ _ _ _ _ _ _ _ hc h1, bad30 _ _ _ _ _ _ _ _ _ _ _ _ _ hc h2⟩
theorem edges_any (n r0 r1 r2 r3 r4 : Int) : ∃ (x : Int) (c : Int), (∀ w : World, Calls Tryd.prog 31 #[.agg #[.int .i64 n, .int .i64 r0, .int .i64 r1, .int .i64 r2, .int .i64 r3, .int .i64 r4]] w fun e w' => e = .returned (.tuple #[.int .i64 x, .int .i64 c]) ∧ Below w.heap.size w w') ∧ (∀ w : World, Calls Tryd.prog 32 #[.agg #[.int .i64 n, .int .i64 r0, .int .i64 r1, .int .i64 r2, .int .i64 r3, .int .i64 r4]] w fun e w' => e = .returned (.tuple #[.int .i64 x, .int .i64 c]) ∧ Below w.heap.size w w') := by
  rcases wf_or n r0 r1 r2 r3 r4 with ⟨k, r, hr, rfl, rfl, rfl, rfl, rfl, rfl⟩ | ⟨c, hc, h1, h2⟩
  · exact ⟨_, _, edges_wf hr, redges_wf hr⟩
  · exact ⟨_, _, bad31 _ _ _ _ _ _ _ hc h1, bad32 _ _ _ _ _ _ _ hc h2⟩
theorem kernel_any (n r0 r1 r2 r3 r4 : Int) : ∃ (x : Int) (c : Int), (∀ w : World, Calls Tryd.prog 33 #[.agg #[.int .i64 n, .int .i64 r0, .int .i64 r1, .int .i64 r2, .int .i64 r3, .int .i64 r4]] w fun e w' => e = .returned (.tuple #[.int .i64 x, .int .i64 c]) ∧ Below w.heap.size w w') ∧ (∀ w : World, Calls Tryd.prog 34 #[.agg #[.int .i64 n, .int .i64 r0, .int .i64 r1, .int .i64 r2, .int .i64 r3, .int .i64 r4]] w fun e w' => e = .returned (.tuple #[.int .i64 x, .int .i64 c]) ∧ Below w.heap.size w w') := by
  rcases wf_or n r0 r1 r2 r3 r4 with ⟨k, r, hr, rfl, rfl, rfl, rfl, rfl, rfl⟩ | ⟨c, hc, h1, h2⟩
  · exact ⟨_, _, ker33_wf hr, ker34_wf hr⟩
  · exact ⟨_, _, bad33 _ _ _ _ _ _ _ hc h1, bad34 _ _ _ _ _ _ _ hc h2⟩
theorem roots_any (n r0 r1 r2 r3 r4 : Int) : ∃ (x : Int) (c : Int), (∀ w : World, Calls Tryd.prog 35 #[.agg #[.int .i64 n, .int .i64 r0, .int .i64 r1, .int .i64 r2, .int .i64 r3, .int .i64 r4]] w fun e w' => e = .returned (.tuple #[.int .i64 x, .int .i64 c]) ∧ Below w.heap.size w w') ∧ (∀ w : World, Calls Tryd.prog 36 #[.agg #[.int .i64 n, .int .i64 r0, .int .i64 r1, .int .i64 r2, .int .i64 r3, .int .i64 r4]] w fun e w' => e = .returned (.tuple #[.int .i64 x, .int .i64 c]) ∧ Below w.heap.size w w') := by
  rcases wf_or n r0 r1 r2 r3 r4 with ⟨k, r, hr, rfl, rfl, rfl, rfl, rfl, rfl⟩ | ⟨c, hc, h1, h2⟩
  · exact ⟨_, _, roots35_wf hr, roots36_wf hr⟩
  · exact ⟨_, _, bad35 _ _ _ _ _ _ _ hc h1, bad36 _ _ _ _ _ _ _ hc h2⟩
theorem nonsplit_any (n r0 r1 r2 r3 r4 : Int) : ∃ (x : Bool) (c : Int), (∀ w : World, Calls Tryd.prog 37 #[.agg #[.int .i64 n, .int .i64 r0, .int .i64 r1, .int .i64 r2, .int .i64 r3, .int .i64 r4]] w fun e w' => e = .returned (.tuple #[.bool x, .int .i64 c]) ∧ Below w.heap.size w w') ∧ (∀ w : World, Calls Tryd.prog 38 #[.agg #[.int .i64 n, .int .i64 r0, .int .i64 r1, .int .i64 r2, .int .i64 r3, .int .i64 r4]] w fun e w' => e = .returned (.tuple #[.bool x, .int .i64 c]) ∧ Below w.heap.size w w') := by
  rcases wf_or n r0 r1 r2 r3 r4 with ⟨k, r, hr, rfl, rfl, rfl, rfl, rfl, rfl⟩ | ⟨c, hc, h1, h2⟩
  · exact ⟨_, _, nonsplit37_wf hr, nonsplit38_wf hr⟩
  · exact ⟨_, _, bad37 _ _ _ _ _ _ _ hc h1, bad38 _ _ _ _ _ _ _ hc h2⟩
set_option maxRecDepth 100000 in
set_option maxHeartbeats 4000000 in
theorem graphMeasures_call (n r0 r1 r2 r3 r4 m s0 s1 s2 s3 s4 : Int) (w : World) :
    Calls Tryd.prog 6 #[.agg #[.int .i64 n, .int .i64 r0, .int .i64 r1, .int .i64 r2, .int .i64 r3, .int .i64 r4], .agg #[.int .i64 m, .int .i64 s0, .int .i64 s1, .int .i64 s2, .int .i64 s3, .int .i64 s4]] w fun e w' => e = .returned (.bool true) ∧ Below w.heap.size w w' := by
  obtain ⟨x, xe, hx1, hx2⟩ := inside_any n r0 r1 r2 r3 r4 m s0 s1 s2 s3 s4
  have Hx1 := Lib.hid hx1
  have Hx2 := Lib.hid hx2
  clear hx1 hx2
  obtain ⟨y, ye, hy1, hy2⟩ := edges_any n r0 r1 r2 r3 r4
  have Hy1 := Lib.hid hy1
  have Hy2 := Lib.hid hy2
  clear hy1 hy2
  obtain ⟨z, ze, hz1, hz2⟩ := kernel_any n r0 r1 r2 r3 r4
  have Hz1 := Lib.hid hz1
  have Hz2 := Lib.hid hz2
  clear hz1 hz2
  obtain ⟨u, ue, hu1, hu2⟩ := roots_any n r0 r1 r2 r3 r4
  have Hu1 := Lib.hid hu1
  have Hu2 := Lib.hid hu2
  clear hu1 hu2
  obtain ⟨v, ve, hv1, hv2⟩ := nonsplit_any n r0 r1 r2 r3 r4
  have Hv1 := Lib.hid hv1
  have Hv2 := Lib.hid hv2
  clear hv1 hv2
  have T0 := Lib.hid ((below_alloc w (.cells #[.int .i64 n, .int .i64 r0, .int .i64 r1, .int .i64 r2, .int .i64 r3, .int .i64 r4] 24)).alloc (by rw [size_alloc]; omega) (.cells #[.int .i64 m, .int .i64 s0, .int .i64 s1, .int .i64 s2, .int .i64 s3, .int .i64 s4] 24))
  have RA0 := Lib.hid (row_alloc (row_new w n r0 r1 r2 r3 r4) (.cells #[.int .i64 m, .int .i64 s0, .int .i64 s1, .int .i64 s2, .int .i64 s3, .int .i64 s4] 24))
  have RB0 := Lib.hid (row_new (w.alloc (.cells #[.int .i64 n, .int .i64 r0, .int .i64 r1, .int .i64 r2, .int .i64 r3, .int .i64 r4] 24)) m s0 s1 s2 s3 s4)
  rw [size_alloc] at RB0
  go_enter Tryd.func6, Tryd.ntmps6
  go_wp2_with first
    | (go_at_call 20; refine (Go.Proofs.YtajhejdeijhccaaDoor.Ev.awake _).mono ?_; rintro e w20 ⟨rfl, hb20⟩)
    | (go_at_call 38; refine (Hv2.out _).mono ?_; rintro e w10 ⟨rfl, hb10⟩; have T10 := Lib.hid (T9.out.trans (bel_le hb10 T9.out.size)); have RA10 := Lib.hid (row_below RA9.out hb10); have RB10 := Lib.hid (row_below RB9.out hb10); obtain ⟨a0, a1, a2, a3, a4, a5⟩ := RA10.out; obtain ⟨b0, b1, b2, b3, b4, b5⟩ := RB10.out; clear hb10)
    | (go_at_call 37; refine (Hv1.out _).mono ?_; rintro e w9 ⟨rfl, hb9⟩; have T9 := Lib.hid (T8.out.trans (bel_le hb9 T8.out.size)); have RA9 := Lib.hid (row_below RA8.out hb9); have RB9 := Lib.hid (row_below RB8.out hb9); obtain ⟨a0, a1, a2, a3, a4, a5⟩ := RA9.out; obtain ⟨b0, b1, b2, b3, b4, b5⟩ := RB9.out; clear hb9)
    | (go_at_call 36; refine (Hu2.out _).mono ?_; rintro e w8 ⟨rfl, hb8⟩; have T8 := Lib.hid (T7.out.trans (bel_le hb8 T7.out.size)); have RA8 := Lib.hid (row_below RA7.out hb8); have RB8 := Lib.hid (row_below RB7.out hb8); obtain ⟨a0, a1, a2, a3, a4, a5⟩ := RA8.out; obtain ⟨b0, b1, b2, b3, b4, b5⟩ := RB8.out; clear hb8)
    | (go_at_call 35; refine (Hu1.out _).mono ?_; rintro e w7 ⟨rfl, hb7⟩; have T7 := Lib.hid (T6.out.trans (bel_le hb7 T6.out.size)); have RA7 := Lib.hid (row_below RA6.out hb7); have RB7 := Lib.hid (row_below RB6.out hb7); obtain ⟨a0, a1, a2, a3, a4, a5⟩ := RA7.out; obtain ⟨b0, b1, b2, b3, b4, b5⟩ := RB7.out; clear hb7)
    | (go_at_call 34; refine (Hz2.out _).mono ?_; rintro e w6 ⟨rfl, hb6⟩; have T6 := Lib.hid (T5.out.trans (bel_le hb6 T5.out.size)); have RA6 := Lib.hid (row_below RA5.out hb6); have RB6 := Lib.hid (row_below RB5.out hb6); obtain ⟨a0, a1, a2, a3, a4, a5⟩ := RA6.out; obtain ⟨b0, b1, b2, b3, b4, b5⟩ := RB6.out; clear hb6)
    | (go_at_call 33; refine (Hz1.out _).mono ?_; rintro e w5 ⟨rfl, hb5⟩; have T5 := Lib.hid (T4.out.trans (bel_le hb5 T4.out.size)); have RA5 := Lib.hid (row_below RA4.out hb5); have RB5 := Lib.hid (row_below RB4.out hb5); obtain ⟨a0, a1, a2, a3, a4, a5⟩ := RA5.out; obtain ⟨b0, b1, b2, b3, b4, b5⟩ := RB5.out; clear hb5)
    | (go_at_call 32; refine (Hy2.out _).mono ?_; rintro e w4 ⟨rfl, hb4⟩; have T4 := Lib.hid (T3.out.trans (bel_le hb4 T3.out.size)); have RA4 := Lib.hid (row_below RA3.out hb4); have RB4 := Lib.hid (row_below RB3.out hb4); obtain ⟨a0, a1, a2, a3, a4, a5⟩ := RA4.out; obtain ⟨b0, b1, b2, b3, b4, b5⟩ := RB4.out; clear hb4)
    | (go_at_call 31; refine (Hy1.out _).mono ?_; rintro e w3 ⟨rfl, hb3⟩; have T3 := Lib.hid (T2.out.trans (bel_le hb3 T2.out.size)); have RA3 := Lib.hid (row_below RA2.out hb3); have RB3 := Lib.hid (row_below RB2.out hb3); obtain ⟨a0, a1, a2, a3, a4, a5⟩ := RA3.out; obtain ⟨b0, b1, b2, b3, b4, b5⟩ := RB3.out; clear hb3)
    | (go_at_call 30; refine (Hx2.out _).mono ?_; rintro e w2 ⟨rfl, hb2⟩; have T2 := Lib.hid (T1.out.trans (bel_le hb2 T1.out.size)); have RA2 := Lib.hid (row_below RA1.out hb2); have RB2 := Lib.hid (row_below RB1.out hb2); obtain ⟨a0, a1, a2, a3, a4, a5⟩ := RA2.out; obtain ⟨b0, b1, b2, b3, b4, b5⟩ := RB2.out; clear hb2)
    | (go_at_call 29; refine (Hx1.out _).mono ?_; rintro e w1 ⟨rfl, hb1⟩; have T1 := Lib.hid (T0.out.trans (bel_le hb1 T0.out.size)); have RA1 := Lib.hid (row_below RA0.out hb1); have RB1 := Lib.hid (row_below RB0.out hb1); obtain ⟨a0, a1, a2, a3, a4, a5⟩ := RA1.out; obtain ⟨b0, b1, b2, b3, b4, b5⟩ := RB1.out; clear hb1)
  go_ret
  exact ⟨rfl, T10.out.trans (bel_le hb20 T10.out.size)⟩
theorem graphMeasures_walk {W : World} (n r0 r1 r2 r3 r4 m s0 s1 s2 s3 s4 : Int) : Calls Tryd.prog 6 #[.agg #[.int .i64 n, .int .i64 r0, .int .i64 r1, .int .i64 r2, .int .i64 r3, .int .i64 r4], .agg #[.int .i64 m, .int .i64 s0, .int .i64 s1, .int .i64 s2, .int .i64 s3, .int .i64 s4]] W fun e w' => e = .returned (.bool true) ∧ Below W.heap.size W w' :=
  graphMeasures_call n r0 r1 r2 r3 r4 m s0 s1 s2 s3 s4 W
end Go.Proofs.YtajhejdeijhccaaDoor.Graph
