/-
  GraphPermutes answers true.
-/
import Derived.Test.YtajhejdeijhccaaDoorEvGPermAny
namespace Go.Proofs.YtajhejdeijhccaaDoor.Graph
open Go Go.RowKit Go.Graph Go.Law
open Go.Proofs.YtajhejdeijhccaaDoor.Col

theorem ints_alloc {w : World} {v : Value} {zs : List Int} (h : IntsAt w .i64 v zs) (o : Obj) : IntsAt (w.alloc o) .i64 v zs := h.below (below_alloc w o)
set_option maxRecDepth 100000 in
set_option maxHeartbeats 2000000 in
theorem permutes_long (n r0 r1 r2 r3 r4 : Int) (p : Option Addr) (len cap : Nat) (hl : 20 < len) (w : World) :
    Calls Tryd.prog 5 #[.agg #[.int .i64 n, .int .i64 r0, .int .i64 r1, .int .i64 r2, .int .i64 r3, .int .i64 r4], .slice p len cap] w fun e w' => e = .returned (.bool true) ∧ Below w.heap.size w w' := by
  have T0 := Lib.hid (below_alloc w (.cells #[.int .i64 n, .int .i64 r0, .int .i64 r1, .int .i64 r2, .int .i64 r3, .int .i64 r4] 24))
  have e1 : decide ((20 : Int) < (len : Int)) = true := by simp; omega
  go_enter Tryd.func5, Tryd.ntmps5
  go_wp2_with (go_at_call 20; refine (Go.Proofs.YtajhejdeijhccaaDoor.Ev.awake _).mono ?_; rintro e w20 ⟨rfl, hb20⟩)
  go_ret
  exact ⟨rfl, T0.out.trans (bel_le hb20 T0.out.size)⟩
set_option maxRecDepth 100000 in
set_option maxHeartbeats 2000000 in
theorem permutes_short (n r0 r1 r2 r3 r4 : Int) (p : Option Addr) (len cap : Nat) (zs : List Int) (hl : len ≤ 20) (w : World) (hi : IntsAt w .i64 (.slice p len cap) zs) :
    Calls Tryd.prog 5 #[.agg #[.int .i64 n, .int .i64 r0, .int .i64 r1, .int .i64 r2, .int .i64 r3, .int .i64 r4], .slice p len cap] w fun e w' => e = .returned (.bool true) ∧ Below w.heap.size w w' := by
  obtain ⟨x, x0, x1, x2, x3, x4, xe, hx1, hx2⟩ := permute_any n r0 r1 r2 r3 r4 (.slice p len cap) zs
  have HX1 := Lib.hid hx1
  have HX2 := Lib.hid hx2
  unfold pairV at HX1 HX2
  clear hx1 hx2
  have he1 := eq_self x0 x1 x2 x3 x4
  have e1 : decide ((20 : Int) < (len : Int)) = false := by simp; omega
  have T0 := Lib.hid (below_alloc w (.cells #[.int .i64 n, .int .i64 r0, .int .i64 r1, .int .i64 r2, .int .i64 r3, .int .i64 r4] 24))
  have RA0 := Lib.hid (row_new w n r0 r1 r2 r3 r4)
  have I0 := Lib.hid (ints_alloc hi (.cells #[.int .i64 n, .int .i64 r0, .int .i64 r1, .int .i64 r2, .int .i64 r3, .int .i64 r4] 24))
  clear hi
  go_enter Tryd.func5, Tryd.ntmps5
  go_wp2_with first
    | (go_at_call 20; refine (Go.Proofs.YtajhejdeijhccaaDoor.Ev.awake _).mono ?_; rintro e w20 ⟨rfl, hb20⟩)
    | (go_at_call 28; refine (HX2.out _ I1.out).mono ?_; rintro e w2 ⟨rfl, hb2⟩; have T2 := Lib.hid ((T1.out.trans (bel_le hb2 T1.out.size)).alloc (by have := T1.out.size; have := hb2.size; omega) (.cells #[.int .i64 x, .int .i64 x0, .int .i64 x1, .int .i64 x2, .int .i64 x3, .int .i64 x4] 24)); have RX2 := Lib.hid (row_alloc (row_below RX1.out hb2) (.cells #[.int .i64 x, .int .i64 x0, .int .i64 x1, .int .i64 x2, .int .i64 x3, .int .i64 x4] 24)); have RY2 := Lib.hid (row_new w2 x x0 x1 x2 x3 x4); obtain ⟨b0, b1, b2, b3, b4, b5⟩ := RX2.out; obtain ⟨c0, c1, c2, c3, c4, c5⟩ := RY2.out; clear hb2)
    | (go_at_call 27; refine (HX1.out _ I0.out).mono ?_; rintro e w1 ⟨rfl, hb1⟩; have T1 := Lib.hid ((T0.out.trans (bel_le hb1 T0.out.size)).alloc (by have := T0.out.size; have := hb1.size; omega) (.cells #[.int .i64 x, .int .i64 x0, .int .i64 x1, .int .i64 x2, .int .i64 x3, .int .i64 x4] 24)); have RA1 := Lib.hid (row_alloc (row_below RA0.out hb1) (.cells #[.int .i64 x, .int .i64 x0, .int .i64 x1, .int .i64 x2, .int .i64 x3, .int .i64 x4] 24)); have RX1 := Lib.hid (row_new w1 x x0 x1 x2 x3 x4); have I1 := Lib.hid (ints_alloc (I0.out.below hb1) (.cells #[.int .i64 x, .int .i64 x0, .int .i64 x1, .int .i64 x2, .int .i64 x3, .int .i64 x4] 24)); obtain ⟨a0, a1, a2, a3, a4, a5⟩ := RA1.out; clear hb1)
  go_ret
  exact ⟨rfl, T2.out.trans (bel_le hb20 T2.out.size)⟩
theorem graphPermutes_walk {W : World} (n r0 r1 r2 r3 r4 : Int) {v : Value} {zs : List Int} (h : IntsAt W .i64 v zs) : Calls Tryd.prog 5 #[.agg #[.int .i64 n, .int .i64 r0, .int .i64 r1, .int .i64 r2, .int .i64 r3, .int .i64 r4], v] W fun e w' => e = .returned (.bool true) ∧ Below W.heap.size W w' := by
  have h' := h
  obtain ⟨p, cap, rfl, h1, h2, h0⟩ := h
  by_cases hl : 20 < zs.length
  · exact permutes_long _ _ _ _ _ _ p _ cap hl W
  · exact permutes_short _ _ _ _ _ _ p _ cap zs (by omega) W h'
end Go.Proofs.YtajhejdeijhccaaDoor.Graph
