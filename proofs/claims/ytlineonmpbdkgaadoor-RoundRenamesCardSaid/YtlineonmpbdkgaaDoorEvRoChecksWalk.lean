/-
  RoundChecks answers true.
-/
import Derived.Test.YtlineonmpbdkgaaDoorEvRoChecks
import Derived.Test.YtlineonmpbdkgaaDoorEvRoSeat
import Derived.Test.YtlineonmpbdkgaaDoorEvRoPermRef
import Derived.Deep.RegionHeld3
import Derived.Deep.Cut
namespace Go.Proofs.YtlineonmpbdkgaaDoor.Graph
open Go Go.RowKit Go.Graph Go.Law
open Go.Proofs.YtlineonmpbdkgaaDoor.Col

/-- A round that lies in block B. -/
@[reducible] def Row7 (w : World) (B : Nat) (n r0 r1 r2 r3 r4 f : Int) : Prop := w.cell? ⟨B, 0, none⟩ = some (.int .i64 n) ∧ w.cell? ⟨B, 1, none⟩ = some (.int .i64 r0) ∧ w.cell? ⟨B, 2, none⟩ = some (.int .i64 r1) ∧ w.cell? ⟨B, 3, none⟩ = some (.int .i64 r2) ∧ w.cell? ⟨B, 4, none⟩ = some (.int .i64 r3) ∧ w.cell? ⟨B, 5, none⟩ = some (.int .i64 r4) ∧ w.cell? ⟨B, 6, none⟩ = some (.int .i64 f)
theorem row7_new (w : World) (n r0 r1 r2 r3 r4 f : Int) : Row7 (w.alloc (.cells #[.int .i64 n, .int .i64 r0, .int .i64 r1, .int .i64 r2, .int .i64 r3, .int .i64 r4, .int .i64 f] 26)) w.heap.size n r0 r1 r2 r3 r4 f := by
  refine ⟨?_, ?_, ?_, ?_, ?_, ?_, ?_⟩ <;> (rw [World.cell?_alloc_at _ _ _ _ rfl]; rfl)
theorem row7_below {w w' : World} {B : Nat} {n r0 r1 r2 r3 r4 f : Int} (h : Row7 w B n r0 r1 r2 r3 r4 f) (hb : Below w.heap.size w w') : Row7 w' B n r0 r1 r2 r3 r4 f :=
  have hl : B < w.heap.size := cell_lt h.1
  ⟨(hb.cell hl).trans h.1, (hb.cell hl).trans h.2.1, (hb.cell hl).trans h.2.2.1, (hb.cell hl).trans h.2.2.2.1, (hb.cell hl).trans h.2.2.2.2.1, (hb.cell hl).trans h.2.2.2.2.2.1, (hb.cell hl).trans h.2.2.2.2.2.2⟩
theorem row7_alloc {w : World} {B : Nat} {n r0 r1 r2 r3 r4 f : Int} (h : Row7 w B n r0 r1 r2 r3 r4 f) (o : Obj) : Row7 (w.alloc o) B n r0 r1 r2 r3 r4 f := row7_below h ((Below.refl _ _).alloc (Nat.le_refl _) o)
theorem keep2 {w w' : World} {X Y : Nat} {n r0 r1 r2 r3 r4 f m s0 s1 s2 s3 s4 g : Int} (h : Row7 w X n r0 r1 r2 r3 r4 f ∧ Row7 w Y m s0 s1 s2 s3 s4 g) (hb : Below w.heap.size w w') : Row7 w' X n r0 r1 r2 r3 r4 f ∧ Row7 w' Y m s0 s1 s2 s3 s4 g := ⟨row7_below h.1 hb, row7_below h.2 hb⟩
theorem or_two (B : Nat) (x y : Int) (w : World) (c0 : w.cell? ⟨B, 0, none⟩ = some (.int .i64 x)) (c1 : w.cell? ⟨B, 1, none⟩ = some (.int .i64 y)) :
    Calls Tryd.prog 38 #[.slice (some ⟨B, 0, none⟩) 2 2] w fun e w' => e = .returned (.int .i64 (if x = 0 then y else x)) ∧ w = w' := by
  have C0 := Lib.hid c0
  have C1 := Lib.hid c1
  go_enter Tryd.func38, Tryd.ntmps38
  go_wp2
  go_loop [8] (fun i => (i = .int .i64 0) ∨ (i = .int .i64 1 ∧ x = 0) ∨ (i = .int .i64 2 ∧ x = 0 ∧ y = 0)) (fun i => 2 - (intOf i).toNat)
  case atStart => exact .inl rfl
  case round =>
    rcases hrel with rfl | ⟨rfl, hx⟩ | ⟨rfl, hx, hy⟩
    · by_cases hx : x = 0
      · have hb : (x != 0) = false := by simpa using hx
        have HX := Lib.hid hx
        clear hx
        go_wp2
        go_round
        case rel => exact .inr (.inl ⟨by go_num, HX.out⟩)
        case measure => simp [intOf]
      · have hb : (x != 0) = true := by simpa using hx
        have HX := Lib.hid hx
        clear hx
        go_wp2
        go_ret
        exact ⟨ret_int (by first | rfl | simp [HX.out]), rfl⟩
    · have HX := Lib.hid hx
      clear hx
      by_cases hy : y = 0
      · have hb : (y != 0) = false := by simpa using hy
        have HY := Lib.hid hy
        clear hy
        go_wp2
        go_round
        case rel => exact .inr (.inr ⟨by go_num, HX.out, HY.out⟩)
        case measure => simp [intOf]
      · have hb : (y != 0) = true := by simpa using hy
        clear hy
        go_wp2
        go_ret
        exact ⟨ret_int (by first | rfl | simp [HX.out]), rfl⟩
    · have HX := Lib.hid hx
      have HY := Lib.hid hy
      clear hx hy
      go_wp2
      go_ret
      exact ⟨ret_int (by first | rfl | simp [HX.out, HY.out]), rfl⟩
theorem lex7 (n r0 r1 r2 r3 r4 f m s0 s1 s2 s3 s4 g : Int) : (if lex [n, r0, r1, r2, r3, r4] [m, s0, s1, s2, s3, s4] = 0 then cmp f g else lex [n, r0, r1, r2, r3, r4] [m, s0, s1, s2, s3, s4]) = lex [n, r0, r1, r2, r3, r4, f] [m, s0, s1, s2, s3, s4, g] := by
  simp only [lex, cmp]
  repeat' split
  all_goals first | rfl | omega | simp_all
theorem below_two (w : World) (n r0 r1 r2 r3 r4 f m s0 s1 s2 s3 s4 g : Int) : Below w.heap.size w ((w.alloc (.cells #[.int .i64 n, .int .i64 r0, .int .i64 r1, .int .i64 r2, .int .i64 r3, .int .i64 r4, .int .i64 f] 26)).alloc (.cells #[.int .i64 m, .int .i64 s0, .int .i64 s1, .int .i64 s2, .int .i64 s3, .int .i64 s4, .int .i64 g] 26)) := (below_alloc w _).alloc (by rw [size_alloc]; omega) _
set_option maxRecDepth 100000 in
theorem compare7_same (n r0 r1 r2 r3 r4 f : Int) (w : World) :
    Calls Tryd.prog 11 #[.agg #[.int .i64 n, .int .i64 r0, .int .i64 r1, .int .i64 r2, .int .i64 r3, .int .i64 r4, .int .i64 f], .agg #[.int .i64 n, .int .i64 r0, .int .i64 r1, .int .i64 r2, .int .i64 r3, .int .i64 r4, .int .i64 f]] w fun e w' => e = .returned (.int .i64 0) ∧ Below w.heap.size w w' := by
  have he9 := fun w => arr_eq_d 9997 r0 r1 r2 r3 r4 r0 r1 r2 r3 r4 w
  have he8 := fun w => arr_eq_d 9996 r0 r1 r2 r3 r4 r0 r1 r2 r3 r4 w
  have he7 := fun w => arr_eq_d 9995 r0 r1 r2 r3 r4 r0 r1 r2 r3 r4 w
  simp only [and_self, decide_true] at he9 he8 he7
  have HB := Lib.hid (below_two w n r0 r1 r2 r3 r4 f n r0 r1 r2 r3 r4 f)
  go_enter Tryd.func11, Tryd.ntmps11
  go_wp2
  go_ret
  exact ⟨rfl, HB.out⟩
/-- What the arrays' test needs to know. -/
theorem arr_known {r0 r1 r2 r3 r4 s0 s1 s2 s3 s4 : Int} {d : Bool} (hd : decide (r0 = s0 ∧ r1 = s1 ∧ r2 = s2 ∧ r3 = s3 ∧ r4 = s4) = d) (k : Nat) (w : World) : (Op.equalIn (k + 1 + 1) 22 (.agg #[.int .i64 r0, .int .i64 r1, .int .i64 r2, .int .i64 r3, .int .i64 r4]) (.agg #[.int .i64 s0, .int .i64 s1, .int .i64 s2, .int .i64 s3, .int .i64 s4])).run Tryd.prog w = .ok d w := by
  rw [← hd]; exact arr_eq_d k r0 r1 r2 r3 r4 s0 s1 s2 s3 s4 w
set_option maxRecDepth 100000 in
set_option maxHeartbeats 4000000 in
/-- Where rounds differ. d1: the numbers of processes are equal; d2: the rows; d3: the faulty ones. -/
theorem compare7_diff {n r0 r1 r2 r3 r4 f m s0 s1 s2 s3 s4 g : Int} {d1 d2 d3 : Bool} (h1 : (n == m) = d1) (h2 : decide (r0 = s0 ∧ r1 = s1 ∧ r2 = s2 ∧ r3 = s3 ∧ r4 = s4) = d2) (h3 : (f == g) = d3) (hne : (d1 && d2 && d3) = false) (w : World) :
    Calls Tryd.prog 11 #[.agg #[.int .i64 n, .int .i64 r0, .int .i64 r1, .int .i64 r2, .int .i64 r3, .int .i64 r4, .int .i64 f], .agg #[.int .i64 m, .int .i64 s0, .int .i64 s1, .int .i64 s2, .int .i64 s3, .int .i64 s4, .int .i64 g]] w fun e w' => e = .returned (.int .i64 (lex [n, r0, r1, r2, r3, r4, f] [m, s0, s1, s2, s3, s4, g])) ∧ Below w.heap.size w w' := by
  have he9 := arr_known h2 9997
  have he8 := arr_known h2 9996
  have he7 := arr_known h2 9995
  have HB := Lib.hid (below_two w n r0 r1 r2 r3 r4 f m s0 s1 s2 s3 s4 g)
  have HC := Lib.hid (compare_any n r0 r1 r2 r3 r4 m s0 s1 s2 s3 s4)
  have HF := Lib.hid (cmp_ok f g)
  have HL := Lib.hid (lex7 n r0 r1 r2 r3 r4 f m s0 s1 s2 s3 s4 g)
  have HR := Lib.hid (show Row7 ((w.alloc (.cells #[.int .i64 n, .int .i64 r0, .int .i64 r1, .int .i64 r2, .int .i64 r3, .int .i64 r4, .int .i64 f] 26)).alloc (.cells #[.int .i64 m, .int .i64 s0, .int .i64 s1, .int .i64 s2, .int .i64 s3, .int .i64 s4, .int .i64 g] 26)) w.heap.size n r0 r1 r2 r3 r4 f ∧ Row7 ((w.alloc (.cells #[.int .i64 n, .int .i64 r0, .int .i64 r1, .int .i64 r2, .int .i64 r3, .int .i64 r4, .int .i64 f] 26)).alloc (.cells #[.int .i64 m, .int .i64 s0, .int .i64 s1, .int .i64 s2, .int .i64 s3, .int .i64 s4, .int .i64 g] 26)) (w.heap.size + 1) m s0 s1 s2 s3 s4 g from ⟨row7_alloc (row7_new w n r0 r1 r2 r3 r4 f) _, by have := row7_new (w.alloc (.cells #[.int .i64 n, .int .i64 r0, .int .i64 r1, .int .i64 r2, .int .i64 r3, .int .i64 r4, .int .i64 f] 26)) m s0 s1 s2 s3 s4 g; rw [size_alloc] at this; exact this⟩)
  clear h2
  generalize lex [n, r0, r1, r2, r3, r4] [m, s0, s1, s2, s3, s4] = c at *
  generalize cmp f g = q at *
  generalize lex [n, r0, r1, r2, r3, r4, f] [m, s0, s1, s2, s3, s4, g] = L at *
  have HO : Hid (∀ (B : Nat) (W : World), W.cell? ⟨B, 0, none⟩ = some (.int .i64 c) → W.cell? ⟨B, 1, none⟩ = some (.int .i64 q) → Calls Tryd.prog 38 #[.slice (some ⟨B, 0, none⟩) 2 2] W fun e w' => e = .returned (.int .i64 L) ∧ W = w') := Lib.hid fun B W c0 c1 => by
    rw [← HL.out]; exact or_two B c q W c0 c1
  clear HL
  cases d1 <;> cases d2 <;> cases d3 <;> first
    | (exact absurd hne (by decide))
    | (clear hne
       go_enter Tryd.func11, Tryd.ntmps11
       go_wp2
       generalize hW2 : World.alloc (World.alloc w _) _ = W2 at *
       have hsd := HR.out
       go_region_held3 (fun z : World => (z.cell? ⟨w.heap.size, 0, none⟩ = some (.int .i64 n) ∧ z.cell? ⟨w.heap.size, 1, none⟩ = some (.int .i64 r0) ∧ z.cell? ⟨w.heap.size, 2, none⟩ = some (.int .i64 r1) ∧ z.cell? ⟨w.heap.size, 3, none⟩ = some (.int .i64 r2) ∧ z.cell? ⟨w.heap.size, 4, none⟩ = some (.int .i64 r3) ∧ z.cell? ⟨w.heap.size, 5, none⟩ = some (.int .i64 r4) ∧ z.cell? ⟨w.heap.size, 6, none⟩ = some (.int .i64 f)) ∧ (z.cell? ⟨w.heap.size + 1, 0, none⟩ = some (.int .i64 m) ∧ z.cell? ⟨w.heap.size + 1, 1, none⟩ = some (.int .i64 s0) ∧ z.cell? ⟨w.heap.size + 1, 2, none⟩ = some (.int .i64 s1) ∧ z.cell? ⟨w.heap.size + 1, 3, none⟩ = some (.int .i64 s2) ∧ z.cell? ⟨w.heap.size + 1, 4, none⟩ = some (.int .i64 s3) ∧ z.cell? ⟨w.heap.size + 1, 5, none⟩ = some (.int .i64 s4) ∧ z.cell? ⟨w.heap.size + 1, 6, none⟩ = some (.int .i64 g))) (first | exact hsd | assumption | with_reducible exact keep2 (by assumption) hb39 | exact keep2 (by assumption) ((Below.refl _ _).alloc (Nat.le_refl _) _)) (first
         | (go_at_call 39; refine (HC.out _).mono ?_; rintro e w1 ⟨rfl, hb39⟩)
         | (go_at_call 40; refine (HF.out _).mono ?_; rintro e w' ⟨rfl, rfl⟩)
         | (go_at_call 38; refine (HO.out _ _ (by rw [World.cell?_alloc_at _ _ _ _ rfl]; rfl) (by rw [World.cell?_alloc_at _ _ _ _ rfl]; rfl)).mono ?_; rintro e w' ⟨rfl, rfl⟩))
       go_wp2
       go_ret
       have b1 := HB.out.drew.trans (bel_le hb39 HB.out.drew.size)
       exact ⟨rfl, b1.alloc b1.size _⟩)
theorem compare7 (n r0 r1 r2 r3 r4 f m s0 s1 s2 s3 s4 g : Int) (w : World) :
    Calls Tryd.prog 11 #[.agg #[.int .i64 n, .int .i64 r0, .int .i64 r1, .int .i64 r2, .int .i64 r3, .int .i64 r4, .int .i64 f], .agg #[.int .i64 m, .int .i64 s0, .int .i64 s1, .int .i64 s2, .int .i64 s3, .int .i64 s4, .int .i64 g]] w fun e w' => e = .returned (.int .i64 (lex [n, r0, r1, r2, r3, r4, f] [m, s0, s1, s2, s3, s4, g])) ∧ Below w.heap.size w w' := by
  by_cases h : n = m ∧ (r0 = s0 ∧ r1 = s1 ∧ r2 = s2 ∧ r3 = s3 ∧ r4 = s4) ∧ f = g
  · obtain ⟨rfl, ⟨rfl, rfl, rfl, rfl, rfl⟩, rfl⟩ := h
    rw [lex_self]
    exact compare7_same _ _ _ _ _ _ _ w
  · refine compare7_diff rfl rfl rfl ?_ w
    cases hb : ((n == m) && decide (r0 = s0 ∧ r1 = s1 ∧ r2 = s2 ∧ r3 = s3 ∧ r4 = s4) && (f == g)) with
    | false => rfl
    | true =>
      simp only [Bool.and_eq_true, beq_iff_eq, decide_eq_true_eq] at hb
      exact absurd ⟨hb.1.1, hb.1.2, hb.2⟩ h
/-- Two boxes, in a later world. -/
theorem seven2 (w : World) (n r0 r1 r2 r3 r4 f m s0 s1 s2 s3 s4 g : Int) : ∀ w1 : World, Below ((w.alloc (.cells #[.int .i64 n, .int .i64 r0, .int .i64 r1, .int .i64 r2, .int .i64 r3, .int .i64 r4, .int .i64 f] 26)).alloc (.cells #[.int .i64 m, .int .i64 s0, .int .i64 s1, .int .i64 s2, .int .i64 s3, .int .i64 s4, .int .i64 g] 26)).heap.size ((w.alloc (.cells #[.int .i64 n, .int .i64 r0, .int .i64 r1, .int .i64 r2, .int .i64 r3, .int .i64 r4, .int .i64 f] 26)).alloc (.cells #[.int .i64 m, .int .i64 s0, .int .i64 s1, .int .i64 s2, .int .i64 s3, .int .i64 s4, .int .i64 g] 26)) w1 →
    Below w.heap.size w w1 ∧ w1.cell? ⟨w.heap.size, 6, none⟩ = some (.int .i64 f) ∧ w1.cell? ⟨w.heap.size + 1, 6, none⟩ = some (.int .i64 g) := by
  intro w1 hb
  have h1 := row7_below (row7_alloc (row7_new w n r0 r1 r2 r3 r4 f) (.cells #[.int .i64 m, .int .i64 s0, .int .i64 s1, .int .i64 s2, .int .i64 s3, .int .i64 s4, .int .i64 g] 26)) hb
  have h2 := row7_below (row7_new (w.alloc (.cells #[.int .i64 n, .int .i64 r0, .int .i64 r1, .int .i64 r2, .int .i64 r3, .int .i64 r4, .int .i64 f] 26)) m s0 s1 s2 s3 s4 g) hb
  rw [size_alloc] at h2
  exact ⟨(below_two w n r0 r1 r2 r3 r4 f m s0 s1 s2 s3 s4 g).trans (bel_le hb (below_two w n r0 r1 r2 r3 r4 f m s0 s1 s2 s3 s4 g).size), h1.2.2.2.2.2.2, h2.2.2.2.2.2.2⟩
set_option maxRecDepth 100000 in
set_option maxHeartbeats 2000000 in
theorem rcompare7 (n r0 r1 r2 r3 r4 f m s0 s1 s2 s3 s4 g : Int) (w : World) :
    Calls Tryd.prog 12 #[.agg #[.int .i64 n, .int .i64 r0, .int .i64 r1, .int .i64 r2, .int .i64 r3, .int .i64 r4, .int .i64 f], .agg #[.int .i64 m, .int .i64 s0, .int .i64 s1, .int .i64 s2, .int .i64 s3, .int .i64 s4, .int .i64 g]] w fun e w' => e = .returned (.int .i64 (lex [n, r0, r1, r2, r3, r4, f] [m, s0, s1, s2, s3, s4, g])) ∧ Below w.heap.size w w' := by
  have HC := Lib.hid (rcompare_any n r0 r1 r2 r3 r4 m s0 s1 s2 s3 s4)
  have H2 := Lib.hid (seven2 w n r0 r1 r2 r3 r4 f m s0 s1 s2 s3 s4 g)
  rw [← lex7]
  generalize lex [n, r0, r1, r2, r3, r4] [m, s0, s1, s2, s3, s4] = c at *
  by_cases hc : c = 0
  · rw [if_pos hc]
    subst hc
    unfold cmp
    by_cases h1 : f < g
    · rw [if_pos h1]
      go_enter Tryd.func12, Tryd.ntmps12
      go_wp2_with (go_at_call 41; refine (HC.out _).mono ?_; rintro e w1 ⟨rfl, hb1⟩; obtain ⟨hB, c6, d6⟩ := H2.out _ hb1; have HB := Lib.hid hB; clear hb1 hB)
      go_ret
      exact ⟨rfl, HB.out⟩
    · rw [if_neg h1]
      by_cases h2 : g < f
      · rw [if_pos h2]
        go_enter Tryd.func12, Tryd.ntmps12
        go_wp2_with (go_at_call 41; refine (HC.out _).mono ?_; rintro e w1 ⟨rfl, hb1⟩; obtain ⟨hB, c6, d6⟩ := H2.out _ hb1; have HB := Lib.hid hB; clear hb1 hB)
        go_ret
        exact ⟨rfl, HB.out⟩
      · rw [if_neg h2]
        go_enter Tryd.func12, Tryd.ntmps12
        go_wp2_with (go_at_call 41; refine (HC.out _).mono ?_; rintro e w1 ⟨rfl, hb1⟩; obtain ⟨hB, c6, d6⟩ := H2.out _ hb1; have HB := Lib.hid hB; clear hb1 hB)
        go_ret
        exact ⟨rfl, HB.out⟩
  · rw [if_neg hc]
    have hcb : (c != 0) = true := by simpa using hc
    clear hc
    go_enter Tryd.func12, Tryd.ntmps12
    go_wp2_with (go_at_call 41; refine (HC.out _).mono ?_; rintro e w1 ⟨rfl, hb1⟩; obtain ⟨hB, c6, d6⟩ := H2.out _ hb1; have HB := Lib.hid hB; clear hb1 hB)
    go_ret
    exact ⟨rfl, HB.out⟩
end Go.Proofs.YtlineonmpbdkgaaDoor.Graph
namespace Go.Proofs.YtlineonmpbdkgaaDoor.Graph
open Go Go.RowKit Go.Graph Go.Law Go.Ev
open Go.Proofs.YtlineonmpbdkgaaDoor.Col
open Go.Proofs.YtlineonmpbdkgaaDoor.Ev (tabs Len awake)

theorem block_lt {w : World} {b : Nat} {o : Obj} (h : w.heap[b]? = some o) : b < w.heap.size := by
  by_cases hb : b < w.heap.size
  · exact hb
  · rw [Array.getElem?_eq_none (by omega)] at h; cases h
theorem _root_.Go.Ev.Held.below {W w : World} {ts : List Tab} (H : Held W ts) (hb : Below W.heap.size W w) : Held w ts := fun t ht => by
  obtain ⟨cs, fz, h, h3, h4⟩ := H t ht
  exact ⟨cs, fz, by rw [hb.block _ (block_lt h)]; exact h, h3, h4⟩
theorem len_below {W w : World} (H : Len W) (hb : Below W.heap.size W w) : Len w := by
  obtain ⟨m, hm⟩ := H
  exact ⟨m, (hb.cell (p := ⟨0, 0, none⟩) (cell_lt hm)).trans hm⟩
theorem still_true {w : World} {e0 e1 : TypeId} (HH : Held w (tabs e0 e1)) (HM : Len w) {W : World} (hb : Below w.heap.size w W) : Calls Tryd.prog 13 #[] W fun e w' => e = .returned (.bool true) ∧ Below W.heap.size W w' := awake (HH.below hb) (len_below HM hb)
set_option maxRecDepth 100000 in
set_option maxHeartbeats 4000000 in
theorem roundChecks_walk {w : World} {e0 e1 : TypeId} (hH : Held w (tabs e0 e1)) (hM : Len w) (n r0 r1 r2 r3 r4 f m s0 s1 s2 s3 s4 g : Int) :
    Calls Tryd.prog 3 #[.agg #[.int .i64 n, .int .i64 r0, .int .i64 r1, .int .i64 r2, .int .i64 r3, .int .i64 r4, .int .i64 f], .agg #[.int .i64 m, .int .i64 s0, .int .i64 s1, .int .i64 s2, .int .i64 s3, .int .i64 s4, .int .i64 g]] w fun e w' => e = .returned (.bool true) ∧ Below w.heap.size w w' := by
  have HH := Lib.hid hH
  have HM := Lib.hid hM
  clear hH hM
  have HC1 := Lib.hid (round_check n r0 r1 r2 r3 r4 f)
  have HC2 := Lib.hid (rround_check n r0 r1 r2 r3 r4 f)
  have HQ1 := Lib.hid (compare7 n r0 r1 r2 r3 r4 f m s0 s1 s2 s3 s4 g)
  have HQ2 := Lib.hid (rcompare7 n r0 r1 r2 r3 r4 f m s0 s1 s2 s3 s4 g)
  have HB := Lib.hid (below_two w n r0 r1 r2 r3 r4 f m s0 s1 s2 s3 s4 g)
  have HR := Lib.hid (show Row7 ((w.alloc (.cells #[.int .i64 n, .int .i64 r0, .int .i64 r1, .int .i64 r2, .int .i64 r3, .int .i64 r4, .int .i64 f] 26)).alloc (.cells #[.int .i64 m, .int .i64 s0, .int .i64 s1, .int .i64 s2, .int .i64 s3, .int .i64 s4, .int .i64 g] 26)) w.heap.size n r0 r1 r2 r3 r4 f ∧ Row7 ((w.alloc (.cells #[.int .i64 n, .int .i64 r0, .int .i64 r1, .int .i64 r2, .int .i64 r3, .int .i64 r4, .int .i64 f] 26)).alloc (.cells #[.int .i64 m, .int .i64 s0, .int .i64 s1, .int .i64 s2, .int .i64 s3, .int .i64 s4, .int .i64 g] 26)) (w.heap.size + 1) m s0 s1 s2 s3 s4 g from ⟨row7_alloc (row7_new w n r0 r1 r2 r3 r4 f) _, by have := row7_new (w.alloc (.cells #[.int .i64 n, .int .i64 r0, .int .i64 r1, .int .i64 r2, .int .i64 r3, .int .i64 r4, .int .i64 f] 26)) m s0 s1 s2 s3 s4 g; rw [size_alloc] at this; exact this⟩)
  generalize lex [n, r0, r1, r2, r3, r4, f] [m, s0, s1, s2, s3, s4, g] = q at *
  generalize rcheck n [r0, r1, r2, r3, r4] f = c at *
  go_enter Tryd.func3, Tryd.ntmps3
  go_wp2
  generalize hW2 : World.alloc (World.alloc w _) _ = W2 at *
  have hsd := HR.out
  go_region_held3 (fun z : World => (z.cell? ⟨w.heap.size, 0, none⟩ = some (.int .i64 n) ∧ z.cell? ⟨w.heap.size, 1, none⟩ = some (.int .i64 r0) ∧ z.cell? ⟨w.heap.size, 2, none⟩ = some (.int .i64 r1) ∧ z.cell? ⟨w.heap.size, 3, none⟩ = some (.int .i64 r2) ∧ z.cell? ⟨w.heap.size, 4, none⟩ = some (.int .i64 r3) ∧ z.cell? ⟨w.heap.size, 5, none⟩ = some (.int .i64 r4) ∧ z.cell? ⟨w.heap.size, 6, none⟩ = some (.int .i64 f)) ∧ (z.cell? ⟨w.heap.size + 1, 0, none⟩ = some (.int .i64 m) ∧ z.cell? ⟨w.heap.size + 1, 1, none⟩ = some (.int .i64 s0) ∧ z.cell? ⟨w.heap.size + 1, 2, none⟩ = some (.int .i64 s1) ∧ z.cell? ⟨w.heap.size + 1, 3, none⟩ = some (.int .i64 s2) ∧ z.cell? ⟨w.heap.size + 1, 4, none⟩ = some (.int .i64 s3) ∧ z.cell? ⟨w.heap.size + 1, 5, none⟩ = some (.int .i64 s4) ∧ z.cell? ⟨w.heap.size + 1, 6, none⟩ = some (.int .i64 g))) (first | exact hsd | assumption | with_reducible exact keep2 (by assumption) hb9 | with_reducible exact keep2 (by assumption) hb10 | with_reducible exact keep2 (by assumption) hb11 | with_reducible exact keep2 (by assumption) hb12 | with_reducible exact keep2 (by assumption) hb13) (first
    | (go_at_call 9; refine (HC1.out _).mono ?_; rintro e w9 ⟨rfl, hb9⟩; have T9 := Lib.hid (HB.out.drew.trans (bel_le hb9 HB.out.drew.size)))
    | (go_at_call 10; refine (HC2.out _).mono ?_; rintro e w10 ⟨rfl, hb10⟩; have T10 := Lib.hid (T9.out.trans (bel_le hb10 T9.out.size)))
    | (go_at_call 11; refine (HQ1.out _).mono ?_; rintro e w11 ⟨rfl, hb11⟩; have T11 := Lib.hid (T10.out.trans (bel_le hb11 T10.out.size)))
    | (go_at_call 12; refine (HQ2.out _).mono ?_; rintro e w12 ⟨rfl, hb12⟩; have T12 := Lib.hid (T11.out.trans (bel_le hb12 T11.out.size)))
    | (go_at_call 13; refine (still_true HH.out HM.out T12.out).mono ?_; rintro e w13 ⟨rfl, hb13⟩; have T13 := Lib.hid (T12.out.trans (bel_le hb13 T12.out.size))))
  go_wp2
  go_ret
  exact ⟨rfl, T13.out⟩
end Go.Proofs.YtlineonmpbdkgaaDoor.Graph
