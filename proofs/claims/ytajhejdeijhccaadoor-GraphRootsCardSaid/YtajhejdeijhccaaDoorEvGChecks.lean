/-
  GraphChecks answers true.
-/
import Derived.Test.YtajhejdeijhccaaDoorEvGMake
import Derived.Test.YtajhejdeijhccaaDoorEvLaw
import Derived.Deep.RegionHeld3
namespace Go.Proofs.YtajhejdeijhccaaDoor.Graph
open Go Go.RowKit Go.Graph Go.Law
open Go.Proofs.YtajhejdeijhccaaDoor.Col

theorem checks (n r0 r1 r2 r3 r4 : Int) : ∃ c : Int, (∀ w : World, Calls Tryd.prog 16 #[.agg #[.int .i64 n, .int .i64 r0, .int .i64 r1, .int .i64 r2, .int .i64 r3, .int .i64 r4]] w fun e w' => e = .returned (.int .i64 c) ∧ Below w.heap.size w w') ∧ (∀ w : World, Calls Tryd.prog 17 #[.agg #[.int .i64 n, .int .i64 r0, .int .i64 r1, .int .i64 r2, .int .i64 r3, .int .i64 r4]] w fun e w' => e = .returned (.int .i64 c) ∧ Below w.heap.size w w') := by
  by_cases h : n < 1 ∨ 5 < n
  · exact ⟨2, check_bad n h r0 r1 r2 r3 r4, rcheck_bad n h r0 r1 r2 r3 r4⟩
  · obtain ⟨k, rfl⟩ := Int.eq_ofNat_of_zero_le (show 0 ≤ n by omega)
    exact ⟨_, check_any k (by omega) (by omega) r0 r1 r2 r3 r4, rcheck_any k (by omega) (by omega) r0 r1 r2 r3 r4⟩
/-- A graph that lies in block B. -/
@[reducible] def Row6 (w : World) (B : Nat) (n r0 r1 r2 r3 r4 : Int) : Prop := (w.cell? ⟨B, 0, none⟩ = some (.int .i64 n) ∧ w.cell? ⟨B, 1, none⟩ = some (.int .i64 r0) ∧ w.cell? ⟨B, 2, none⟩ = some (.int .i64 r1) ∧ w.cell? ⟨B, 3, none⟩ = some (.int .i64 r2) ∧ w.cell? ⟨B, 4, none⟩ = some (.int .i64 r3) ∧ w.cell? ⟨B, 5, none⟩ = some (.int .i64 r4))
theorem row_new (w : World) (n r0 r1 r2 r3 r4 : Int) : Row6 (w.alloc (.cells #[.int .i64 n, .int .i64 r0, .int .i64 r1, .int .i64 r2, .int .i64 r3, .int .i64 r4] 24)) w.heap.size n r0 r1 r2 r3 r4 := by
  refine ⟨?_, ?_, ?_, ?_, ?_, ?_⟩ <;> (rw [World.cell?_alloc_at _ _ _ _ rfl]; rfl)
theorem row_below {w w' : World} {B : Nat} {n r0 r1 r2 r3 r4 : Int} (h : Row6 w B n r0 r1 r2 r3 r4) (hb : Below w.heap.size w w') : Row6 w' B n r0 r1 r2 r3 r4 :=
  have hl : B < w.heap.size := cell_lt h.1
  ⟨(hb.cell hl).trans h.1, (hb.cell hl).trans h.2.1, (hb.cell hl).trans h.2.2.1, (hb.cell hl).trans h.2.2.2.1, (hb.cell hl).trans h.2.2.2.2.1, (hb.cell hl).trans h.2.2.2.2.2⟩
theorem row_alloc {w : World} {B : Nat} {n r0 r1 r2 r3 r4 : Int} (h : Row6 w B n r0 r1 r2 r3 r4) (o : Obj) : Row6 (w.alloc o) B n r0 r1 r2 r3 r4 := row_below h ((Below.refl _ _).alloc (Nat.le_refl _) o)
theorem eq_self (x0 x1 x2 x3 x4 : Int) (w : World) : (Op.equalIn 9999 22 (.agg #[.int .i64 x0, .int .i64 x1, .int .i64 x2, .int .i64 x3, .int .i64 x4]) (.agg #[.int .i64 x0, .int .i64 x1, .int .i64 x2, .int .i64 x3, .int .i64 x4])).run Tryd.prog w = .ok true w := by
  have := arr_eq x0 x1 x2 x3 x4 x0 x1 x2 x3 x4 w
  simpa using this
theorem bel_le {B B' : Nat} {w w' : World} (h : Below B w w') (hb : B' ≤ B) : Below B' w w' := ⟨h.os, h.tape, h.output, h.size, fun k hk => h.block k (by omega)⟩
theorem keepSix {w w' : World} {A B X Y U V : Nat} {n r0 r1 r2 r3 r4 m s0 s1 s2 s3 s4 x x0 x1 x2 x3 x4 u u0 u1 u2 u3 u4 : Int} (h : Row6 w A n r0 r1 r2 r3 r4 ∧ Row6 w B m s0 s1 s2 s3 s4 ∧ Row6 w X x x0 x1 x2 x3 x4 ∧ Row6 w Y x x0 x1 x2 x3 x4 ∧ Row6 w U u u0 u1 u2 u3 u4 ∧ Row6 w V u u0 u1 u2 u3 u4) (hb : Below w.heap.size w w') : Row6 w' A n r0 r1 r2 r3 r4 ∧ Row6 w' B m s0 s1 s2 s3 s4 ∧ Row6 w' X x x0 x1 x2 x3 x4 ∧ Row6 w' Y x x0 x1 x2 x3 x4 ∧ Row6 w' U u u0 u1 u2 u3 u4 ∧ Row6 w' V u u0 u1 u2 u3 u4 :=
  ⟨row_below h.1 hb, row_below h.2.1 hb, row_below h.2.2.1 hb, row_below h.2.2.2.1 hb, row_below h.2.2.2.2.1 hb, row_below h.2.2.2.2.2 hb⟩
set_option maxRecDepth 100000 in
set_option maxHeartbeats 2000000 in
theorem graphChecks_call (n r0 r1 r2 r3 r4 m s0 s1 s2 s3 s4 k : Int) (w : World) :
    Calls Tryd.prog 3 #[.agg #[.int .i64 n, .int .i64 r0, .int .i64 r1, .int .i64 r2, .int .i64 r3, .int .i64 r4], .agg #[.int .i64 m, .int .i64 s0, .int .i64 s1, .int .i64 s2, .int .i64 s3, .int .i64 s4], .int .i64 k] w fun e w' => e = .returned (.bool true) ∧ Below w.heap.size w w' := by
  obtain ⟨c, hc1, hc2⟩ := checks n r0 r1 r2 r3 r4
  obtain ⟨x, x0, x1, x2, x3, x4, ex, hx1, hx2⟩ := complete_any k
  obtain ⟨u, u0, u1, u2, u3, u4, eu, hu1, hu2⟩ := silent_any k
  have HC1 := Lib.hid hc1
  have HC2 := Lib.hid hc2
  have HX1 := Lib.hid hx1
  have HX2 := Lib.hid hx2
  have HU1 := Lib.hid hu1
  have HU2 := Lib.hid hu2
  unfold pairV at HX1 HX2 HU1 HU2
  clear hc1 hc2 hx1 hx2 hu1 hu2
  have HQ1 := Lib.hid (compare_any n r0 r1 r2 r3 r4 m s0 s1 s2 s3 s4)
  have HQ2 := Lib.hid (rcompare_any n r0 r1 r2 r3 r4 m s0 s1 s2 s3 s4)
  generalize lex [n, r0, r1, r2, r3, r4] [m, s0, s1, s2, s3, s4] = q at *
  go_enter Tryd.func3, Tryd.ntmps3
  go_wp2_with first
    | (go_at_call 12; refine (HX1.out _).mono ?_; rintro e w1 ⟨rfl, hb1⟩)
    | (go_at_call 13; refine (HX2.out _).mono ?_; rintro e w2 ⟨rfl, hb2⟩)
    | (go_at_call 14; refine (HU1.out _).mono ?_; rintro e w3 ⟨rfl, hb3⟩)
    | (go_at_call 15; refine (HU2.out _).mono ?_; rintro e w4 ⟨rfl, hb4⟩)
  have e1 := size_alloc
  have hw0 : Below w.heap.size w ((w.alloc (.cells #[.int .i64 n, .int .i64 r0, .int .i64 r1, .int .i64 r2, .int .i64 r3, .int .i64 r4] 24)).alloc (.cells #[.int .i64 m, .int .i64 s0, .int .i64 s1, .int .i64 s2, .int .i64 s3, .int .i64 s4] 24)) := (below_alloc w _).alloc (by rw [e1]; omega) _
  have hA0 := row_alloc (row_new w n r0 r1 r2 r3 r4) (.cells #[.int .i64 m, .int .i64 s0, .int .i64 s1, .int .i64 s2, .int .i64 s3, .int .i64 s4] 24)
  have hB0 := row_new (w.alloc (.cells #[.int .i64 n, .int .i64 r0, .int .i64 r1, .int .i64 r2, .int .i64 r3, .int .i64 r4] 24)) m s0 s1 s2 s3 s4
  rw [e1] at hB0
  have hX1 := row_new w1 x x0 x1 x2 x3 x4
  have hY2 := row_new w2 x x0 x1 x2 x3 x4
  have hU3 := row_new w3 u u0 u1 u2 u3 u4
  have hV4 := row_new w4 u u0 u1 u2 u3 u4
  have hA := row_alloc (row_below (row_alloc (row_below (row_alloc (row_below (row_alloc (row_below hA0 hb1) _) hb2) _) hb3) _) hb4) (.cells #[.int .i64 u, .int .i64 u0, .int .i64 u1, .int .i64 u2, .int .i64 u3, .int .i64 u4] 24)
  have hB := row_alloc (row_below (row_alloc (row_below (row_alloc (row_below (row_alloc (row_below hB0 hb1) _) hb2) _) hb3) _) hb4) (.cells #[.int .i64 u, .int .i64 u0, .int .i64 u1, .int .i64 u2, .int .i64 u3, .int .i64 u4] 24)
  have hX := row_alloc (row_below (row_alloc (row_below (row_alloc (row_below hX1 hb2) _) hb3) _) hb4) (.cells #[.int .i64 u, .int .i64 u0, .int .i64 u1, .int .i64 u2, .int .i64 u3, .int .i64 u4] 24)
  have hY := row_alloc (row_below (row_alloc (row_below hY2 hb3) _) hb4) (.cells #[.int .i64 u, .int .i64 u0, .int .i64 u1, .int .i64 u2, .int .i64 u3, .int .i64 u4] 24)
  have hU := row_alloc (row_below hU3 hb4) (.cells #[.int .i64 u, .int .i64 u0, .int .i64 u1, .int .i64 u2, .int .i64 u3, .int .i64 u4] 24)
  have hs0 := hw0.size
  have hs1 := hb1.size
  have hs2 := hb2.size
  have hs3 := hb3.size
  have hs4 := hb4.size
  rw [e1] at hs2 hs3 hs4
  have t1 := hw0.trans (bel_le hb1 hs0)
  have t2 := (t1.alloc t1.size (.cells #[.int .i64 x, .int .i64 x0, .int .i64 x1, .int .i64 x2, .int .i64 x3, .int .i64 x4] 24)).trans (bel_le hb2 (by rw [e1]; have := t1.size; omega))
  have t3 := (t2.alloc t2.size (.cells #[.int .i64 x, .int .i64 x0, .int .i64 x1, .int .i64 x2, .int .i64 x3, .int .i64 x4] 24)).trans (bel_le hb3 (by rw [e1]; have := t2.size; omega))
  have t4 := (t3.alloc t3.size (.cells #[.int .i64 u, .int .i64 u0, .int .i64 u1, .int .i64 u2, .int .i64 u3, .int .i64 u4] 24)).trans (bel_le hb4 (by rw [e1]; have := t3.size; omega))
  have t5 := t4.alloc t4.size (.cells #[.int .i64 u, .int .i64 u0, .int .i64 u1, .int .i64 u2, .int .i64 u3, .int .i64 u4] 24)
  generalize hW : World.alloc w4 _ = W5 at *
  have HS := Lib.hid (show Row6 W5 (w.heap.size) n r0 r1 r2 r3 r4 ∧ Row6 W5 (w.heap.size + 1) m s0 s1 s2 s3 s4 ∧ Row6 W5 (w1.heap.size) x x0 x1 x2 x3 x4 ∧ Row6 W5 (w2.heap.size) x x0 x1 x2 x3 x4 ∧ Row6 W5 (w3.heap.size) u u0 u1 u2 u3 u4 ∧ Row6 W5 (w4.heap.size) u u0 u1 u2 u3 u4 from ⟨hA, hB, hX, hY, hU, hV4⟩)
  have T := Lib.hid t5
  generalize hA_ : w.heap.size + 1 = bB at *
  generalize w1.heap.size = bX at *
  generalize w2.heap.size = bY at *
  generalize w3.heap.size = bU at *
  generalize w4.heap.size = bV at *
  clear t1 t2 t3 t4 t5 hs0 hs1 hs2 hs3 hs4 hb1 hb2 hb3 hb4 hA hB hX hY hU hV4 hX1 hY2 hU3 hA0 hB0 hw0 e1 hW hA_
  have he1 := eq_self x0 x1 x2 x3 x4
  have he2 := eq_self u0 u1 u2 u3 u4
  have hsd := HS.out
  go_region_held3 (fun z : World => (z.cell? ⟨w.heap.size, 0, none⟩ = some (.int .i64 n) ∧ z.cell? ⟨w.heap.size, 1, none⟩ = some (.int .i64 r0) ∧ z.cell? ⟨w.heap.size, 2, none⟩ = some (.int .i64 r1) ∧ z.cell? ⟨w.heap.size, 3, none⟩ = some (.int .i64 r2) ∧ z.cell? ⟨w.heap.size, 4, none⟩ = some (.int .i64 r3) ∧ z.cell? ⟨w.heap.size, 5, none⟩ = some (.int .i64 r4)) ∧ (z.cell? ⟨bB, 0, none⟩ = some (.int .i64 m) ∧ z.cell? ⟨bB, 1, none⟩ = some (.int .i64 s0) ∧ z.cell? ⟨bB, 2, none⟩ = some (.int .i64 s1) ∧ z.cell? ⟨bB, 3, none⟩ = some (.int .i64 s2) ∧ z.cell? ⟨bB, 4, none⟩ = some (.int .i64 s3) ∧ z.cell? ⟨bB, 5, none⟩ = some (.int .i64 s4)) ∧ (z.cell? ⟨bX, 0, none⟩ = some (.int .i64 x) ∧ z.cell? ⟨bX, 1, none⟩ = some (.int .i64 x0) ∧ z.cell? ⟨bX, 2, none⟩ = some (.int .i64 x1) ∧ z.cell? ⟨bX, 3, none⟩ = some (.int .i64 x2) ∧ z.cell? ⟨bX, 4, none⟩ = some (.int .i64 x3) ∧ z.cell? ⟨bX, 5, none⟩ = some (.int .i64 x4)) ∧ (z.cell? ⟨bY, 0, none⟩ = some (.int .i64 x) ∧ z.cell? ⟨bY, 1, none⟩ = some (.int .i64 x0) ∧ z.cell? ⟨bY, 2, none⟩ = some (.int .i64 x1) ∧ z.cell? ⟨bY, 3, none⟩ = some (.int .i64 x2) ∧ z.cell? ⟨bY, 4, none⟩ = some (.int .i64 x3) ∧ z.cell? ⟨bY, 5, none⟩ = some (.int .i64 x4)) ∧ (z.cell? ⟨bU, 0, none⟩ = some (.int .i64 u) ∧ z.cell? ⟨bU, 1, none⟩ = some (.int .i64 u0) ∧ z.cell? ⟨bU, 2, none⟩ = some (.int .i64 u1) ∧ z.cell? ⟨bU, 3, none⟩ = some (.int .i64 u2) ∧ z.cell? ⟨bU, 4, none⟩ = some (.int .i64 u3) ∧ z.cell? ⟨bU, 5, none⟩ = some (.int .i64 u4)) ∧ (z.cell? ⟨bV, 0, none⟩ = some (.int .i64 u) ∧ z.cell? ⟨bV, 1, none⟩ = some (.int .i64 u0) ∧ z.cell? ⟨bV, 2, none⟩ = some (.int .i64 u1) ∧ z.cell? ⟨bV, 3, none⟩ = some (.int .i64 u2) ∧ z.cell? ⟨bV, 4, none⟩ = some (.int .i64 u3) ∧ z.cell? ⟨bV, 5, none⟩ = some (.int .i64 u4))) (first | exact hsd | assumption | exact keepSix (by assumption) hb16 | exact keepSix (by assumption) hb17 | exact keepSix (by assumption) hb18 | exact keepSix (by assumption) hb19 | exact keepSix (by assumption) hb20) (first
    | (go_at_call 16; refine (HC1.out _).mono ?_; rintro e w6 ⟨rfl, hb16⟩)
    | (go_at_call 17; refine (HC2.out _).mono ?_; rintro e w7 ⟨rfl, hb17⟩)
    | (go_at_call 18; refine (HQ1.out _).mono ?_; rintro e w8 ⟨rfl, hb18⟩)
    | (go_at_call 19; refine (HQ2.out _).mono ?_; rintro e w9 ⟨rfl, hb19⟩)
    | (go_at_call 20; refine (Go.Proofs.YtajhejdeijhccaaDoor.Ev.awake _).mono ?_; rintro e w10 ⟨rfl, hb20⟩))
  go_wp2
  go_ret
  have b16 := T.out.drew.trans (bel_le hb16 T.out.drew.size)
  have b17 := b16.trans (bel_le hb17 b16.size)
  have b18 := b17.trans (bel_le hb18 b17.size)
  have b19 := b18.trans (bel_le hb19 b18.size)
  exact ⟨rfl, b19.trans (bel_le hb20 b19.size)⟩
theorem graphChecks_walk {W : World} (n r0 r1 r2 r3 r4 m s0 s1 s2 s3 s4 k : Int) : Calls Tryd.prog 3 #[.agg #[.int .i64 n, .int .i64 r0, .int .i64 r1, .int .i64 r2, .int .i64 r3, .int .i64 r4], .agg #[.int .i64 m, .int .i64 s0, .int .i64 s1, .int .i64 s2, .int .i64 s3, .int .i64 s4], .int .i64 k] W fun e w' => e = .returned (.bool true) ∧ Below W.heap.size W w' :=
  graphChecks_call n r0 r1 r2 r3 r4 m s0 s1 s2 s3 s4 k W
end Go.Proofs.YtajhejdeijhccaaDoor.Graph
