/-
  RoundOrders answers true.
-/
import Derived.Test.YtlineonmpbdkgaaDoorEvRoChecksWalk
import Derived.Deep.Cut
namespace Go.Proofs.YtlineonmpbdkgaaDoor.Graph
open Go Go.RowKit Go.Graph Go.Law Go.Ev
open Go.Proofs.YtlineonmpbdkgaaDoor.Col
open Go.Proofs.YtlineonmpbdkgaaDoor.Ev (tabs Len awake)

theorem keep3 {w w' : World} {X Y Z : Nat} {n r0 r1 r2 r3 r4 f m s0 s1 s2 s3 s4 g k t0 t1 t2 t3 t4 h : Int} (hh : Row7 w X n r0 r1 r2 r3 r4 f ∧ Row7 w Y m s0 s1 s2 s3 s4 g ∧ Row7 w Z k t0 t1 t2 t3 t4 h) (hb : Below w.heap.size w w') : Row7 w' X n r0 r1 r2 r3 r4 f ∧ Row7 w' Y m s0 s1 s2 s3 s4 g ∧ Row7 w' Z k t0 t1 t2 t3 t4 h := ⟨row7_below hh.1 hb, row7_below hh.2.1 hb, row7_below hh.2.2 hb⟩
theorem three_new (w : World) (n r0 r1 r2 r3 r4 f m s0 s1 s2 s3 s4 g k t0 t1 t2 t3 t4 h : Int) : Row7 (((w.alloc (.cells #[.int .i64 n, .int .i64 r0, .int .i64 r1, .int .i64 r2, .int .i64 r3, .int .i64 r4, .int .i64 f] 26)).alloc (.cells #[.int .i64 m, .int .i64 s0, .int .i64 s1, .int .i64 s2, .int .i64 s3, .int .i64 s4, .int .i64 g] 26)).alloc (.cells #[.int .i64 k, .int .i64 t0, .int .i64 t1, .int .i64 t2, .int .i64 t3, .int .i64 t4, .int .i64 h] 26)) w.heap.size n r0 r1 r2 r3 r4 f ∧ Row7 (((w.alloc (.cells #[.int .i64 n, .int .i64 r0, .int .i64 r1, .int .i64 r2, .int .i64 r3, .int .i64 r4, .int .i64 f] 26)).alloc (.cells #[.int .i64 m, .int .i64 s0, .int .i64 s1, .int .i64 s2, .int .i64 s3, .int .i64 s4, .int .i64 g] 26)).alloc (.cells #[.int .i64 k, .int .i64 t0, .int .i64 t1, .int .i64 t2, .int .i64 t3, .int .i64 t4, .int .i64 h] 26)) (w.heap.size + 1) m s0 s1 s2 s3 s4 g ∧ Row7 (((w.alloc (.cells #[.int .i64 n, .int .i64 r0, .int .i64 r1, .int .i64 r2, .int .i64 r3, .int .i64 r4, .int .i64 f] 26)).alloc (.cells #[.int .i64 m, .int .i64 s0, .int .i64 s1, .int .i64 s2, .int .i64 s3, .int .i64 s4, .int .i64 g] 26)).alloc (.cells #[.int .i64 k, .int .i64 t0, .int .i64 t1, .int .i64 t2, .int .i64 t3, .int .i64 t4, .int .i64 h] 26)) (w.heap.size + 2) k t0 t1 t2 t3 t4 h := by
  have h1 := row7_new w n r0 r1 r2 r3 r4 f
  have h2 := row7_new (w.alloc (.cells #[.int .i64 n, .int .i64 r0, .int .i64 r1, .int .i64 r2, .int .i64 r3, .int .i64 r4, .int .i64 f] 26)) m s0 s1 s2 s3 s4 g
  have h3 := row7_new ((w.alloc (.cells #[.int .i64 n, .int .i64 r0, .int .i64 r1, .int .i64 r2, .int .i64 r3, .int .i64 r4, .int .i64 f] 26)).alloc (.cells #[.int .i64 m, .int .i64 s0, .int .i64 s1, .int .i64 s2, .int .i64 s3, .int .i64 s4, .int .i64 g] 26)) k t0 t1 t2 t3 t4 h
  rw [size_alloc] at h2
  rw [size_alloc, size_alloc] at h3
  exact ⟨row7_alloc (row7_alloc h1 _) _, row7_alloc h2 _, h3⟩
theorem below_three (w : World) (n r0 r1 r2 r3 r4 f m s0 s1 s2 s3 s4 g k t0 t1 t2 t3 t4 h : Int) : Below w.heap.size w (((w.alloc (.cells #[.int .i64 n, .int .i64 r0, .int .i64 r1, .int .i64 r2, .int .i64 r3, .int .i64 r4, .int .i64 f] 26)).alloc (.cells #[.int .i64 m, .int .i64 s0, .int .i64 s1, .int .i64 s2, .int .i64 s3, .int .i64 s4, .int .i64 g] 26)).alloc (.cells #[.int .i64 k, .int .i64 t0, .int .i64 t1, .int .i64 t2, .int .i64 t3, .int .i64 t4, .int .i64 h] 26)) := (below_two w n r0 r1 r2 r3 r4 f m s0 s1 s2 s3 s4 g).alloc (below_two w n r0 r1 r2 r3 r4 f m s0 s1 s2 s3 s4 g).size _
theorem diff_bool {n r0 r1 r2 r3 r4 f m s0 s1 s2 s3 s4 g : Int} (h : [n, r0, r1, r2, r3, r4, f] ≠ [m, s0, s1, s2, s3, s4, g]) : ((n == m) && decide (r0 = s0 ∧ r1 = s1 ∧ r2 = s2 ∧ r3 = s3 ∧ r4 = s4) && (f == g)) = false := by
  cases hb : ((n == m) && decide (r0 = s0 ∧ r1 = s1 ∧ r2 = s2 ∧ r3 = s3 ∧ r4 = s4) && (f == g)) with
  | false => rfl
  | true =>
    simp only [Bool.and_eq_true, beq_iff_eq, decide_eq_true_eq] at hb
    obtain ⟨⟨rfl, rfl, rfl, rfl, rfl, rfl⟩, rfl⟩ := hb
    exact absurd rfl h
/-- How three rounds can lie. -/
theorem ways {A B C : List Int} (h1 : A.length = B.length) (h2 : B.length = C.length) : ∃ x y z : Int, lex A B = x ∧ lex B C = y ∧ lex A C = z ∧ lex B A = -x ∧ (x = -1 ∨ x = 0 ∨ x = 1) ∧ (y = -1 ∨ y = 0 ∨ y = 1) ∧ (x = 0 → A = B) ∧ (x ≠ 0 → A ≠ B) ∧ (x ≤ 0 → y ≤ 0 → z = max (-1) (x + y)) :=
  ⟨_, _, _, rfl, rfl, rfl, lex_neg A B, lex_range A B, lex_range B C, fun h => (lex_zero h1).1 h, fun h e => h ((lex_zero h1).2 e), fun a b => lex_trans h1 h2 a b⟩
set_option maxRecDepth 100000 in
set_option maxHeartbeats 8000000 in
theorem roundOrders_walk {w : World} {e0 e1 : TypeId} (hH : Held w (tabs e0 e1)) (hM : Len w) (n r0 r1 r2 r3 r4 f m s0 s1 s2 s3 s4 g k t0 t1 t2 t3 t4 h : Int) :
    Calls Tryd.prog 6 #[.agg #[.int .i64 n, .int .i64 r0, .int .i64 r1, .int .i64 r2, .int .i64 r3, .int .i64 r4, .int .i64 f], .agg #[.int .i64 m, .int .i64 s0, .int .i64 s1, .int .i64 s2, .int .i64 s3, .int .i64 s4, .int .i64 g], .agg #[.int .i64 k, .int .i64 t0, .int .i64 t1, .int .i64 t2, .int .i64 t3, .int .i64 t4, .int .i64 h]] w fun e w' => e = .returned (.bool true) ∧ Below w.heap.size w w' := by
  have HH := Lib.hid hH
  have HM := Lib.hid hM
  clear hH hM
  obtain ⟨x, y, z, hx, hy, hz, hn, rx, ry, h0, hne, htr⟩ := ways (A := [n, r0, r1, r2, r3, r4, f]) (B := [m, s0, s1, s2, s3, s4, g]) (C := [k, t0, t1, t2, t3, t4, h]) rfl rfl
  have HX := Lib.hid (compare7 n r0 r1 r2 r3 r4 f m s0 s1 s2 s3 s4 g)
  have HY := Lib.hid (compare7 m s0 s1 s2 s3 s4 g k t0 t1 t2 t3 t4 h)
  have HZ := Lib.hid (compare7 n r0 r1 r2 r3 r4 f k t0 t1 t2 t3 t4 h)
  have HN := Lib.hid (compare7 m s0 s1 s2 s3 s4 g n r0 r1 r2 r3 r4 f)
  have HS := Lib.hid (compare7 n r0 r1 r2 r3 r4 f n r0 r1 r2 r3 r4 f)
  rw [hx] at HX
  rw [hy] at HY
  rw [hz] at HZ
  rw [hn] at HN
  rw [lex_self] at HS
  clear hx hy hz hn
  have HB := Lib.hid (below_three w n r0 r1 r2 r3 r4 f m s0 s1 s2 s3 s4 g k t0 t1 t2 t3 t4 h)
  have HR := Lib.hid (three_new w n r0 r1 r2 r3 r4 f m s0 s1 s2 s3 s4 g k t0 t1 t2 t3 t4 h)
  have H0 := Lib.hid h0
  have HNE := Lib.hid hne
  have HTR := Lib.hid htr
  have RX := Lib.hid rx
  have RY := Lib.hid ry
  clear h0 hne htr rx ry
  go_enter Tryd.func6, Tryd.ntmps6
  go_wp2
  generalize hW2 : World.alloc (World.alloc (World.alloc w _) _) _ = W2 at *
  have hsd := HR.out
  go_region_held3 (fun z : World => (z.cell? ⟨w.heap.size, 0, none⟩ = some (.int .i64 n) ∧ z.cell? ⟨w.heap.size, 1, none⟩ = some (.int .i64 r0) ∧ z.cell? ⟨w.heap.size, 2, none⟩ = some (.int .i64 r1) ∧ z.cell? ⟨w.heap.size, 3, none⟩ = some (.int .i64 r2) ∧ z.cell? ⟨w.heap.size, 4, none⟩ = some (.int .i64 r3) ∧ z.cell? ⟨w.heap.size, 5, none⟩ = some (.int .i64 r4) ∧ z.cell? ⟨w.heap.size, 6, none⟩ = some (.int .i64 f)) ∧ (z.cell? ⟨w.heap.size + 1, 0, none⟩ = some (.int .i64 m) ∧ z.cell? ⟨w.heap.size + 1, 1, none⟩ = some (.int .i64 s0) ∧ z.cell? ⟨w.heap.size + 1, 2, none⟩ = some (.int .i64 s1) ∧ z.cell? ⟨w.heap.size + 1, 3, none⟩ = some (.int .i64 s2) ∧ z.cell? ⟨w.heap.size + 1, 4, none⟩ = some (.int .i64 s3) ∧ z.cell? ⟨w.heap.size + 1, 5, none⟩ = some (.int .i64 s4) ∧ z.cell? ⟨w.heap.size + 1, 6, none⟩ = some (.int .i64 g)) ∧ (z.cell? ⟨w.heap.size + 2, 0, none⟩ = some (.int .i64 k) ∧ z.cell? ⟨w.heap.size + 2, 1, none⟩ = some (.int .i64 t0) ∧ z.cell? ⟨w.heap.size + 2, 2, none⟩ = some (.int .i64 t1) ∧ z.cell? ⟨w.heap.size + 2, 3, none⟩ = some (.int .i64 t2) ∧ z.cell? ⟨w.heap.size + 2, 4, none⟩ = some (.int .i64 t3) ∧ z.cell? ⟨w.heap.size + 2, 5, none⟩ = some (.int .i64 t4) ∧ z.cell? ⟨w.heap.size + 2, 6, none⟩ = some (.int .i64 h))) (first | exact hsd | assumption | with_reducible exact keep3 (by assumption) hbx | with_reducible exact keep3 (by assumption) hby | with_reducible exact keep3 (by assumption) hbz) (first
    | (go_at_call 11; (with_reducible refine (HX.out _).mono ?_); rintro e w1 ⟨rfl, hbx⟩)
    | (go_at_call 11; (with_reducible refine (HY.out _).mono ?_); rintro e w2 ⟨rfl, hby⟩)
    | (go_at_call 11; (with_reducible refine (HZ.out _).mono ?_); rintro e w3 ⟨rfl, hbz⟩))
  have T1 := Lib.hid (HB.out.drew.trans (bel_le hbx HB.out.drew.size))
  have T2 := Lib.hid (T1.out.trans (bel_le hby T1.out.size))
  have T3 := Lib.hid (T2.out.trans (bel_le hbz T2.out.size))
  have R1 := Lib.hid (keep3 (keep3 (keep3 (show Row7 W2.drew w.heap.size n r0 r1 r2 r3 r4 f ∧ Row7 W2.drew (w.heap.size + 1) m s0 s1 s2 s3 s4 g ∧ Row7 W2.drew (w.heap.size + 2) k t0 t1 t2 t3 t4 h from HR.out) hbx) hby) hbz)
  clear hbx hby hbz hsd HX HY HZ
  obtain ⟨⟨p1_0, p1_1, p1_2, p1_3, p1_4, p1_5, p1_6⟩, ⟨q1_0, q1_1, q1_2, q1_3, q1_4, q1_5, q1_6⟩, ⟨z1_0, z1_1, z1_2, z1_3, z1_4, z1_5, z1_6⟩⟩ := R1.out
  clear HB HR
  have hw0 : wrap64 0 = 0 := by unfold wrap64; omega
  have hw1 : wrap64 (-1) = -1 := by unfold wrap64; omega
  have hw2 : wrap64 (-2) = -2 := by unfold wrap64; omega
  have hv0 : IntKind.i64.wrap 0 = 0 := by decide
  have hv1 : IntKind.i64.wrap (-1) = -1 := by decide
  have hv2 : IntKind.i64.wrap (-2) = -2 := by decide
  have hx0 : max (-1 : Int) 0 = 0 := by decide
  have hx1 : max (-1 : Int) (-1) = -1 := by decide
  have hx2 : max (-1 : Int) (-2) = -1 := by decide
  rcases RX.out with ex | ex | ex
  · subst ex
    have hneq := HNE.out (by decide)
    have hd := diff_bool hneq
    have HD := Lib.hid hd
    clear hd hneq
    obtain ⟨d2, h2⟩ : ∃ d, decide (r0 = s0 ∧ r1 = s1 ∧ r2 = s2 ∧ r3 = s3 ∧ r4 = s4) = d := ⟨_, rfl⟩
    obtain ⟨d1, h1⟩ : ∃ d, (n == m) = d := ⟨_, rfl⟩
    obtain ⟨d3, h3⟩ : ∃ d, (f == g) = d := ⟨_, rfl⟩
    rw [h1, h2, h3] at HD
    have he9 := arr_known h2 9997
    have he8 := arr_known h2 9996
    have he7 := arr_known h2 9995
    clear h2
    cases d1 <;> cases d2 <;> cases d3 <;> first
      | (exact absurd HD.out (by decide))
      | (rcases RY.out with ey | ey | ey <;> (
           subst ey
           (first | (have ez : z = -1 := (HTR.out (by decide) (by decide)).trans (by decide); subst ez) | skip)
           go_wp2_with fail
           refine (HN.out _).mono ?_
           rintro e w4 ⟨rfl, hb4⟩
           have R4 := Lib.hid (keep3 R1.out hb4)
           have T4 := Lib.hid (T3.out.trans (bel_le hb4 T3.out.size))
           clear hb4
           obtain ⟨⟨p4_0, p4_1, p4_2, p4_3, p4_4, p4_5, p4_6⟩, ⟨q4_0, q4_1, q4_2, q4_3, q4_4, q4_5, q4_6⟩, ⟨z4_0, z4_1, z4_2, z4_3, z4_4, z4_5, z4_6⟩⟩ := R4.out
           go_wp2_with fail
           refine (HS.out _).mono ?_
           rintro e w5 ⟨rfl, hb5⟩
           have T5 := Lib.hid (T4.out.trans (bel_le hb5 T4.out.size))
           clear hb5
           go_wp2_with fail
           refine (still_true HH.out HM.out T5.out).mono ?_
           rintro e w6 ⟨rfl, hb6⟩
           have T6 := Lib.hid (T5.out.trans (bel_le hb6 T5.out.size))
           clear hb6
           go_wp2
           go_ret
           exact ⟨rfl, T6.out⟩))
  · subst ex
    have heq := H0.out rfl
    simp only [List.cons.injEq, and_true] at heq
    obtain ⟨rfl, rfl, rfl, rfl, rfl, rfl, rfl⟩ := heq
    have he9 := arr_known (r0 := r0) (r1 := r1) (r2 := r2) (r3 := r3) (r4 := r4) (s0 := r0) (s1 := r1) (s2 := r2) (s3 := r3) (s4 := r4) (d := true) (by simp) 9997
    have he8 := arr_known (r0 := r0) (r1 := r1) (r2 := r2) (r3 := r3) (r4 := r4) (s0 := r0) (s1 := r1) (s2 := r2) (s3 := r3) (s4 := r4) (d := true) (by simp) 9996
    have he7 := arr_known (r0 := r0) (r1 := r1) (r2 := r2) (r3 := r3) (r4 := r4) (s0 := r0) (s1 := r1) (s2 := r2) (s3 := r3) (s4 := r4) (d := true) (by simp) 9995
    rcases RY.out with ey | ey | ey <;> (
      subst ey
      (first | (have ez : z = -1 := (HTR.out (by decide) (by decide)).trans (by decide); subst ez) | (have ez : z = 0 := (HTR.out (by decide) (by decide)).trans (by decide); subst ez) | skip)
      go_wp2_with fail
      refine (HN.out _).mono ?_
      rintro e w4 ⟨rfl, hb4⟩
      have R4 := Lib.hid (keep3 R1.out hb4)
      have T4 := Lib.hid (T3.out.trans (bel_le hb4 T3.out.size))
      clear hb4
      obtain ⟨⟨p4_0, p4_1, p4_2, p4_3, p4_4, p4_5, p4_6⟩, ⟨q4_0, q4_1, q4_2, q4_3, q4_4, q4_5, q4_6⟩, ⟨z4_0, z4_1, z4_2, z4_3, z4_4, z4_5, z4_6⟩⟩ := R4.out
      go_wp2_with fail
      refine (HS.out _).mono ?_
      rintro e w5 ⟨rfl, hb5⟩
      have T5 := Lib.hid (T4.out.trans (bel_le hb5 T4.out.size))
      clear hb5
      go_wp2_with fail
      refine (still_true HH.out HM.out T5.out).mono ?_
      rintro e w6 ⟨rfl, hb6⟩
      have T6 := Lib.hid (T5.out.trans (bel_le hb6 T5.out.size))
      clear hb6
      go_wp2
      go_ret
      exact ⟨rfl, T6.out⟩)
  · subst ex
    have hneq := HNE.out (by decide)
    have hd := diff_bool hneq
    have HD := Lib.hid hd
    clear hd hneq
    obtain ⟨d2, h2⟩ : ∃ d, decide (r0 = s0 ∧ r1 = s1 ∧ r2 = s2 ∧ r3 = s3 ∧ r4 = s4) = d := ⟨_, rfl⟩
    obtain ⟨d1, h1⟩ : ∃ d, (n == m) = d := ⟨_, rfl⟩
    obtain ⟨d3, h3⟩ : ∃ d, (f == g) = d := ⟨_, rfl⟩
    rw [h1, h2, h3] at HD
    have he9 := arr_known h2 9997
    have he8 := arr_known h2 9996
    have he7 := arr_known h2 9995
    clear h2
    cases d1 <;> cases d2 <;> cases d3 <;> first
      | (exact absurd HD.out (by decide))
      | (
         go_wp2_with fail
         refine (HN.out _).mono ?_
         rintro e w4 ⟨rfl, hb4⟩
         have R4 := Lib.hid (keep3 R1.out hb4)
         have T4 := Lib.hid (T3.out.trans (bel_le hb4 T3.out.size))
         clear hb4
         obtain ⟨⟨p4_0, p4_1, p4_2, p4_3, p4_4, p4_5, p4_6⟩, ⟨q4_0, q4_1, q4_2, q4_3, q4_4, q4_5, q4_6⟩, ⟨z4_0, z4_1, z4_2, z4_3, z4_4, z4_5, z4_6⟩⟩ := R4.out
         go_wp2_with fail
         refine (HS.out _).mono ?_
         rintro e w5 ⟨rfl, hb5⟩
         have T5 := Lib.hid (T4.out.trans (bel_le hb5 T4.out.size))
         clear hb5
         go_wp2_with fail
         refine (still_true HH.out HM.out T5.out).mono ?_
         rintro e w6 ⟨rfl, hb6⟩
         have T6 := Lib.hid (T5.out.trans (bel_le hb6 T5.out.size))
         clear hb6
         go_wp2
         go_ret
         exact ⟨rfl, T6.out⟩)
end Go.Proofs.YtlineonmpbdkgaaDoor.Graph
