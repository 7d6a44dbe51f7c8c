/-
  Unions of graphs: the reference's, with their errors.
-/
import Derived.Test.YtajhejdeijhccaaDoorEvGRefProd
namespace Go.Proofs.YtajhejdeijhccaaDoor.Graph
open Go Go.RowKit Go.Graph Go.Law
open Go.Proofs.YtajhejdeijhccaaDoor.Col

set_option maxRecDepth 100000 in
set_option maxHeartbeats 1000000 in
theorem rcompose_bad (n r0 r1 r2 r3 r4 m s0 s1 s2 s3 s4 c : Int) (hc : c ≠ 0) (hb : ∀ w : World, Calls Tryd.prog 47 #[.agg #[.int .i64 n, .int .i64 r0, .int .i64 r1, .int .i64 r2, .int .i64 r3, .int .i64 r4], .agg #[.int .i64 m, .int .i64 s0, .int .i64 s1, .int .i64 s2, .int .i64 s3, .int .i64 s4]] w fun e w' => e = .returned (.int .i64 c) ∧ Below w.heap.size w w') (w : World) :
    Calls Tryd.prog 22 #[.agg #[.int .i64 n, .int .i64 r0, .int .i64 r1, .int .i64 r2, .int .i64 r3, .int .i64 r4], .agg #[.int .i64 m, .int .i64 s0, .int .i64 s1, .int .i64 s2, .int .i64 s3, .int .i64 s4]] w fun e w' => e = .returned (pairV 0 0 0 0 0 0 c) ∧ Below w.heap.size w w' := by
  have e1 : (c != 0) = true := by simpa using hc
  clear hc
  have HB := Lib.hid hb
  clear hb
  have T0 := Lib.hid (((below_alloc w (.cells #[.int .i64 n, .int .i64 r0, .int .i64 r1, .int .i64 r2, .int .i64 r3, .int .i64 r4] 24)).alloc (by rw [size_alloc]; omega) (.cells #[.int .i64 m, .int .i64 s0, .int .i64 s1, .int .i64 s2, .int .i64 s3, .int .i64 s4] 24)).alloc (by rw [size_alloc, size_alloc]; omega) (.cells #[.int .i64 0, .int .i64 0, .int .i64 0, .int .i64 0, .int .i64 0, .int .i64 0] 24))
  have RO := Lib.hid (own_new ((w.alloc (.cells #[.int .i64 n, .int .i64 r0, .int .i64 r1, .int .i64 r2, .int .i64 r3, .int .i64 r4] 24)).alloc (.cells #[.int .i64 m, .int .i64 s0, .int .i64 s1, .int .i64 s2, .int .i64 s3, .int .i64 s4] 24)) [.int .i64 0, .int .i64 0, .int .i64 0, .int .i64 0, .int .i64 0, .int .i64 0] 24)
  rw [size_alloc, size_alloc] at RO
  go_enter Tryd.func22, Tryd.ntmps22
  go_wp2_with (go_at_call 47; refine (HB.out _).mono ?_; rintro e w1 ⟨rfl, hb1⟩; have t1 := Lib.hid (T0.out.trans (bel_le hb1 T0.out.size)); have O := Lib.hid (RO.out.below hb1 RO.out.lt); clear hb1; have d0 := O.out.cell (j := 0) (v := .int .i64 0) rfl; have d1 := O.out.cell (j := 1) (v := .int .i64 0) rfl; have d2 := O.out.cell (j := 2) (v := .int .i64 0) rfl; have d3 := O.out.cell (j := 3) (v := .int .i64 0) rfl; have d4 := O.out.cell (j := 4) (v := .int .i64 0) rfl; have d5 := O.out.cell (j := 5) (v := .int .i64 0) rfl; have z0 := O.out.free 0; have z1 := O.out.free 1; have z2 := O.out.free 2; have z3 := O.out.free 3; have z4 := O.out.free 4; have z5 := O.out.free 5)
  (try simp only [Exit.inBlock, Exit.then])
  refine bodyPost_ret (v := pairV 0 0 0 0 0 0 c) (by simp [results, Tryd.results22, go_sem, pairV, d0, d1, d2, d3, d4, d5]) rfl ⟨rfl, ((((((t1.out.setCell (by show w.heap.size ≤ w.heap.size + 1 + 1; omega) _).setCell (by show w.heap.size ≤ w.heap.size + 1 + 1; omega) _).setCell (by show w.heap.size ≤ w.heap.size + 1 + 1; omega) _).setCell (by show w.heap.size ≤ w.heap.size + 1 + 1; omega) _).setCell (by show w.heap.size ≤ w.heap.size + 1 + 1; omega) _).setCell (by show w.heap.size ≤ w.heap.size + 1 + 1; omega) _)⟩
set_option maxRecDepth 100000 in
set_option maxHeartbeats 1000000 in
theorem rcompose_wf {n : Nat} {a b : Nat → Nat} (ha : WF n a) (hb : WF n b) (w : World) :
    Calls Tryd.prog 22 #[.agg #[.int .i64 n, .int .i64 (a 0), .int .i64 (a 1), .int .i64 (a 2), .int .i64 (a 3), .int .i64 (a 4)], .agg #[.int .i64 n, .int .i64 (b 0), .int .i64 (b 1), .int .i64 (b 2), .int .i64 (b 3), .int .i64 (b 4)]] w fun e w' => e = .returned (pairV n (prod n a b 0 : Nat) (prod n a b 1 : Nat) (prod n a b 2 : Nat) (prod n a b 3 : Nat) (prod n a b 4 : Nat) 0) ∧ Below w.heap.size w w' := by
  have HB := Lib.hid (rboth_wf ha hb)
  have HP := Lib.hid (rproduct_wf ha hb)
  clear ha hb
  generalize prod n a b 0 = p0 at *
  generalize prod n a b 1 = p1 at *
  generalize prod n a b 2 = p2 at *
  generalize prod n a b 3 = p3 at *
  generalize prod n a b 4 = p4 at *
  generalize ((a 0 : Nat) : Int) = r0 at *
  generalize ((a 1 : Nat) : Int) = r1 at *
  generalize ((a 2 : Nat) : Int) = r2 at *
  generalize ((a 3 : Nat) : Int) = r3 at *
  generalize ((a 4 : Nat) : Int) = r4 at *
  generalize ((b 0 : Nat) : Int) = s0 at *
  generalize ((b 1 : Nat) : Int) = s1 at *
  generalize ((b 2 : Nat) : Int) = s2 at *
  generalize ((b 3 : Nat) : Int) = s3 at *
  generalize ((b 4 : Nat) : Int) = s4 at *
  have T0 := Lib.hid (((below_alloc w (.cells #[.int .i64 n, .int .i64 r0, .int .i64 r1, .int .i64 r2, .int .i64 r3, .int .i64 r4] 24)).alloc (by rw [size_alloc]; omega) (.cells #[.int .i64 n, .int .i64 s0, .int .i64 s1, .int .i64 s2, .int .i64 s3, .int .i64 s4] 24)).alloc (by rw [size_alloc, size_alloc]; omega) (.cells #[.int .i64 0, .int .i64 0, .int .i64 0, .int .i64 0, .int .i64 0, .int .i64 0] 24))
  have RO := Lib.hid (own_new ((w.alloc (.cells #[.int .i64 n, .int .i64 r0, .int .i64 r1, .int .i64 r2, .int .i64 r3, .int .i64 r4] 24)).alloc (.cells #[.int .i64 n, .int .i64 s0, .int .i64 s1, .int .i64 s2, .int .i64 s3, .int .i64 s4] 24)) [.int .i64 0, .int .i64 0, .int .i64 0, .int .i64 0, .int .i64 0, .int .i64 0] 24)
  rw [size_alloc, size_alloc] at RO
  have RA := Lib.hid (row_alloc (row_alloc (row_new w n r0 r1 r2 r3 r4) (.cells #[.int .i64 n, .int .i64 s0, .int .i64 s1, .int .i64 s2, .int .i64 s3, .int .i64 s4] 24)) (.cells #[.int .i64 0, .int .i64 0, .int .i64 0, .int .i64 0, .int .i64 0, .int .i64 0] 24))
  have RB := Lib.hid (row_alloc (row_new (w.alloc (.cells #[.int .i64 n, .int .i64 r0, .int .i64 r1, .int .i64 r2, .int .i64 r3, .int .i64 r4] 24)) n s0 s1 s2 s3 s4) (.cells #[.int .i64 0, .int .i64 0, .int .i64 0, .int .i64 0, .int .i64 0, .int .i64 0] 24))
  rw [size_alloc] at RB
  go_enter Tryd.func22, Tryd.ntmps22
  go_wp2_with first
    | (go_at_call 62; refine (HP.out _).mono ?_; rintro e w2 ⟨rfl, hb2⟩; have t2 := Lib.hid (t1.out.trans (bel_le hb2 t1.out.size)); have O := Lib.hid (RO1.out.below hb2 RO1.out.lt); clear hb2; have d0 := O.out.cell (j := 0) (v := .int .i64 0) rfl; have d1 := O.out.cell (j := 1) (v := .int .i64 0) rfl; have d2 := O.out.cell (j := 2) (v := .int .i64 0) rfl; have d3 := O.out.cell (j := 3) (v := .int .i64 0) rfl; have d4 := O.out.cell (j := 4) (v := .int .i64 0) rfl; have d5 := O.out.cell (j := 5) (v := .int .i64 0) rfl; have z0 := O.out.free 0; have z1 := O.out.free 1; have z2 := O.out.free 2; have z3 := O.out.free 3; have z4 := O.out.free 4; have z5 := O.out.free 5)
    | (go_at_call 47; refine (HB.out _).mono ?_; rintro e w1 ⟨rfl, hb1⟩; have t1 := Lib.hid (T0.out.trans (bel_le hb1 T0.out.size)); have RA1 := Lib.hid (row_below RA.out hb1); have RB1 := Lib.hid (row_below RB.out hb1); have RO1 := Lib.hid (RO.out.below hb1 RO.out.lt); clear hb1; obtain ⟨q0, q1, q2, q3, q4, q5⟩ := RA1.out; obtain ⟨o0, o1, o2, o3, o4, o5⟩ := RB1.out)
  (try simp only [Exit.inBlock, Exit.then])
  refine bodyPost_ret (v := pairV n p0 p1 p2 p3 p4 0) (by simp [results, Tryd.results22, go_sem, pairV, d0, d1, d2, d3, d4, d5]) rfl ⟨rfl, ((((((t2.out.setCell (by show w.heap.size ≤ w.heap.size + 1 + 1; omega) _).setCell (by show w.heap.size ≤ w.heap.size + 1 + 1; omega) _).setCell (by show w.heap.size ≤ w.heap.size + 1 + 1; omega) _).setCell (by show w.heap.size ≤ w.heap.size + 1 + 1; omega) _).setCell (by show w.heap.size ≤ w.heap.size + 1 + 1; omega) _).setCell (by show w.heap.size ≤ w.heap.size + 1 + 1; omega) _)⟩
end Go.Proofs.YtajhejdeijhccaaDoor.Graph
namespace Go.Proofs.YtajhejdeijhccaaDoor.Graph
open Go Go.RowKit Go.Graph Go.Law
open Go.Proofs.YtajhejdeijhccaaDoor.Col

/-- Five rows, of which the first k are those of g, the others those of r. -/
def mix (g r : Nat → Int) (k : Nat) : List Int := (List.range 5).map fun i => if i < k then g i else r i
theorem mix_length (g r : Nat → Int) (k : Nat) : (mix g r k).length = 5 := by simp [mix]
theorem mix_get (g r : Nat → Int) (k i : Nat) (h : i < 5) : (mix g r k)[i]? = some (if i < k then g i else r i) := by simp [mix, h]
theorem mix_zero (g r : Nat → Int) : mix g r 0 = [r 0, r 1, r 2, r 3, r 4] := rfl
theorem mix_set (g r : Nat → Int) (k : Nat) : (mix g r k).set k (g k) = mix g r (k + 1) := by
  apply List.ext_getElem?
  intro i
  by_cases hi : i < 5
  · rw [mix_get g r (k + 1) i hi]
    by_cases hik : i = k
    · subst hik
      rw [List.getElem?_set_self (by rw [mix_length]; exact hi), if_pos (by omega)]
    · rw [List.getElem?_set_ne (by omega), mix_get g r k i hi]
      by_cases h : i < k
      · rw [if_pos h, if_pos (by omega)]
      · rw [if_neg h, if_neg (by omega)]
  · rw [List.getElem?_eq_none (by rw [List.length_set, mix_length]; omega), List.getElem?_eq_none (by rw [mix_length]; omega)]
theorem mix_cell (n : Int) (g r : Nat → Int) (k : Nat) (h : k < 5) : (Value.int .i64 n :: (mix g r k).map (Value.int .i64))[1 + k]? = some (.int .i64 (r k)) := by
  rw [Nat.add_comm, List.getElem?_cons_succ, List.getElem?_map, mix_get g r k k h, if_neg (by omega)]; rfl
theorem mix_row (n : Int) (g r : Nat → Int) (k : Nat) : (Value.int .i64 n :: (mix g r k).map (Value.int .i64)).set (1 + k) (.int .i64 (g k)) = Value.int .i64 n :: (mix g r (k + 1)).map (Value.int .i64) := by
  rw [Nat.add_comm, List.set_cons_succ, ← List.map_set, mix_set g r k]
theorem mix_all (g r : Nat → Nat) (n : Nat) (h : ∀ i, n ≤ i → r i = g i) : mix (fun i => (g i : Int)) (fun i => (r i : Int)) n = [(g 0 : Int), (g 1 : Int), (g 2 : Int), (g 3 : Int), (g 4 : Int)] := by
  have e : mix (fun i => (g i : Int)) (fun i => (r i : Int)) n = (List.range 5).map fun i => (g i : Int) := by
    unfold mix
    apply List.map_congr_left
    intro i _
    split
    · rfl
    · rename_i hlt; show (r i : Int) = g i; rw [h i (by omega)]
  rw [e]; rfl
set_option maxRecDepth 100000 in
set_option maxHeartbeats 1000000 in
theorem runion_bad (n r0 r1 r2 r3 r4 m s0 s1 s2 s3 s4 c : Int) (hc : c ≠ 0) (hb : ∀ w : World, Calls Tryd.prog 47 #[.agg #[.int .i64 n, .int .i64 r0, .int .i64 r1, .int .i64 r2, .int .i64 r3, .int .i64 r4], .agg #[.int .i64 m, .int .i64 s0, .int .i64 s1, .int .i64 s2, .int .i64 s3, .int .i64 s4]] w fun e w' => e = .returned (.int .i64 c) ∧ Below w.heap.size w w') (w : World) :
    Calls Tryd.prog 24 #[.agg #[.int .i64 n, .int .i64 r0, .int .i64 r1, .int .i64 r2, .int .i64 r3, .int .i64 r4], .agg #[.int .i64 m, .int .i64 s0, .int .i64 s1, .int .i64 s2, .int .i64 s3, .int .i64 s4]] w fun e w' => e = .returned (pairV 0 0 0 0 0 0 c) ∧ Below w.heap.size w w' := by
  have e1 : (c != 0) = true := by simpa using hc
  clear hc
  have HB := Lib.hid hb
  clear hb
  have T0 := Lib.hid (((below_alloc w (.cells #[.int .i64 n, .int .i64 r0, .int .i64 r1, .int .i64 r2, .int .i64 r3, .int .i64 r4] 24)).alloc (by rw [size_alloc]; omega) (.cells #[.int .i64 m, .int .i64 s0, .int .i64 s1, .int .i64 s2, .int .i64 s3, .int .i64 s4] 24)).alloc (by rw [size_alloc, size_alloc]; omega) (.cells #[.int .i64 0, .int .i64 0, .int .i64 0, .int .i64 0, .int .i64 0, .int .i64 0] 24))
  have RO := Lib.hid (own_new ((w.alloc (.cells #[.int .i64 n, .int .i64 r0, .int .i64 r1, .int .i64 r2, .int .i64 r3, .int .i64 r4] 24)).alloc (.cells #[.int .i64 m, .int .i64 s0, .int .i64 s1, .int .i64 s2, .int .i64 s3, .int .i64 s4] 24)) [.int .i64 0, .int .i64 0, .int .i64 0, .int .i64 0, .int .i64 0, .int .i64 0] 24)
  rw [size_alloc, size_alloc] at RO
  go_enter Tryd.func24, Tryd.ntmps24
  go_wp2_with (go_at_call 47; refine (HB.out _).mono ?_; rintro e w1 ⟨rfl, hb1⟩; have t1 := Lib.hid (T0.out.trans (bel_le hb1 T0.out.size)); have O := Lib.hid (RO.out.below hb1 RO.out.lt); clear hb1; have d0 := O.out.cell (j := 0) (v := .int .i64 0) rfl; have d1 := O.out.cell (j := 1) (v := .int .i64 0) rfl; have d2 := O.out.cell (j := 2) (v := .int .i64 0) rfl; have d3 := O.out.cell (j := 3) (v := .int .i64 0) rfl; have d4 := O.out.cell (j := 4) (v := .int .i64 0) rfl; have d5 := O.out.cell (j := 5) (v := .int .i64 0) rfl; have z0 := O.out.free 0; have z1 := O.out.free 1; have z2 := O.out.free 2; have z3 := O.out.free 3; have z4 := O.out.free 4; have z5 := O.out.free 5)
  (try simp only [Exit.inBlock, Exit.then])
  refine bodyPost_ret (v := pairV 0 0 0 0 0 0 c) (by simp [results, Tryd.results24, go_sem, pairV, d0, d1, d2, d3, d4, d5]) rfl ⟨rfl, ((((((t1.out.setCell (by show w.heap.size ≤ w.heap.size + 1 + 1; omega) _).setCell (by show w.heap.size ≤ w.heap.size + 1 + 1; omega) _).setCell (by show w.heap.size ≤ w.heap.size + 1 + 1; omega) _).setCell (by show w.heap.size ≤ w.heap.size + 1 + 1; omega) _).setCell (by show w.heap.size ≤ w.heap.size + 1 + 1; omega) _).setCell (by show w.heap.size ≤ w.heap.size + 1 + 1; omega) _)⟩
set_option maxRecDepth 100000 in
set_option maxHeartbeats 2000000 in
theorem runion_wf {n : Nat} {a b : Nat → Nat} (ha : WF n a) (hb : WF n b) (w : World) :
    Calls Tryd.prog 24 #[.agg #[.int .i64 n, .int .i64 (a 0), .int .i64 (a 1), .int .i64 (a 2), .int .i64 (a 3), .int .i64 (a 4)], .agg #[.int .i64 n, .int .i64 (b 0), .int .i64 (b 1), .int .i64 (b 2), .int .i64 (b 3), .int .i64 (b 4)]] w fun e w' => e = .returned (pairV n (join a b 0 : Nat) (join a b 1 : Nat) (join a b 2 : Nat) (join a b 3 : Nat) (join a b 4 : Nat) 0) ∧ Below w.heap.size w w' := by
  have h5 := ha.top
  have HB := Lib.hid (rboth_wf ha hb)
  have HM := Lib.hid (mix_all (join a b) a n (fun i hi => by unfold join; rw [ha.out i hi, hb.out i hi]; rfl))
  have HJ := Lib.hid (fun i => or_nat (a i) (b i) (ha.lt32 i) (hb.lt32 i))
  generalize hp0 : join a b 0 = p0 at *
  generalize hp1 : join a b 1 = p1 at *
  generalize hp2 : join a b 2 = p2 at *
  generalize hp3 : join a b 3 = p3 at *
  generalize hp4 : join a b 4 = p4 at *
  clear hp0 hp1 hp2 hp3 hp4 ha hb
  have T0 := Lib.hid (((below_alloc w (.cells #[.int .i64 n, .int .i64 (a 0), .int .i64 (a 1), .int .i64 (a 2), .int .i64 (a 3), .int .i64 (a 4)] 24)).alloc (by rw [size_alloc]; omega) (.cells #[.int .i64 n, .int .i64 (b 0), .int .i64 (b 1), .int .i64 (b 2), .int .i64 (b 3), .int .i64 (b 4)] 24)).alloc (by rw [size_alloc, size_alloc]; omega) (.cells #[.int .i64 0, .int .i64 0, .int .i64 0, .int .i64 0, .int .i64 0, .int .i64 0] 24))
  have OA := Lib.hid (((own_new w [.int .i64 n, .int .i64 (a 0), .int .i64 (a 1), .int .i64 (a 2), .int .i64 (a 3), .int .i64 (a 4)] 24).alloc (.cells #[.int .i64 n, .int .i64 (b 0), .int .i64 (b 1), .int .i64 (b 2), .int .i64 (b 3), .int .i64 (b 4)] 24)).alloc (.cells #[.int .i64 0, .int .i64 0, .int .i64 0, .int .i64 0, .int .i64 0, .int .i64 0] 24))
  have OB := Lib.hid ((own_new (w.alloc (.cells #[.int .i64 n, .int .i64 (a 0), .int .i64 (a 1), .int .i64 (a 2), .int .i64 (a 3), .int .i64 (a 4)] 24)) [.int .i64 n, .int .i64 (b 0), .int .i64 (b 1), .int .i64 (b 2), .int .i64 (b 3), .int .i64 (b 4)] 24).alloc (.cells #[.int .i64 0, .int .i64 0, .int .i64 0, .int .i64 0, .int .i64 0, .int .i64 0] 24))
  rw [size_alloc] at OB
  have RO := Lib.hid (own_new ((w.alloc (.cells #[.int .i64 n, .int .i64 (a 0), .int .i64 (a 1), .int .i64 (a 2), .int .i64 (a 3), .int .i64 (a 4)] 24)).alloc (.cells #[.int .i64 n, .int .i64 (b 0), .int .i64 (b 1), .int .i64 (b 2), .int .i64 (b 3), .int .i64 (b 4)] 24)) [.int .i64 0, .int .i64 0, .int .i64 0, .int .i64 0, .int .i64 0, .int .i64 0] 24)
  rw [size_alloc, size_alloc] at RO
  go_enter Tryd.func24, Tryd.ntmps24
  go_wp2_with (go_at_call 47; refine (HB.out _).mono ?_; rintro e w1 ⟨rfl, hb1⟩; have t1 := Lib.hid (T0.out.trans (bel_le hb1 T0.out.size)); have OA1 := Lib.hid (OA.out.below hb1 OA.out.lt); have OB1 := Lib.hid (OB.out.below hb1 OB.out.lt); have RO1 := Lib.hid (RO.out.below hb1 RO.out.lt); clear hb1)
  go_loopw [7] (fun i wr => ∃ p : Nat, p ≤ n ∧ i = .int .i64 p ∧ Below w.heap.size w wr ∧ Own wr w.heap.size 24 (.int .i64 n :: (mix (fun i => ((join a b i : Nat) : Int)) (fun i => (a i : Int)) p).map (Value.int .i64)) ∧ Own wr (w.heap.size + 1) 24 [.int .i64 n, .int .i64 (b 0), .int .i64 (b 1), .int .i64 (b 2), .int .i64 (b 3), .int .i64 (b 4)] ∧ Own wr (w.heap.size + 1 + 1) 24 [.int .i64 0, .int .i64 0, .int .i64 0, .int .i64 0, .int .i64 0, .int .i64 0]) (fun i _ => n - (intOf i).toNat)
  case atStart => exact ⟨0, Nat.zero_le _, rfl, t1.out, OA1.out, OB1.out, RO1.out⟩
  case round =>
    obtain ⟨p, hp, rfl, hbl, hoa, hob, hor⟩ := hrel
    have HBL := Lib.hid hbl
    have HOA := Lib.hid hoa
    have HOB := Lib.hid hob
    have HOR := Lib.hid hor
    clear hbl hoa hob hor
    have hna := HOA.out.cell (j := 0) (v := .int .i64 n) rfl
    by_cases hlt : p < n
    · have hca := HOA.out.cell (mix_cell n (fun i => ((join a b i : Nat) : Int)) (fun i => (a i : Int)) p (by omega))
      have hcb : wr.cell? ⟨w.heap.size + 1, 1 + p, none⟩ = some (.int .i64 (b p)) := HOB.out.cell (by rcases (by omega : p = 0 ∨ p = 1 ∨ p = 2 ∨ p = 3 ∨ p = 4) with rfl | rfl | rfl | rfl | rfl <;> rfl)
      have hfr := HOA.out.free (1 + p)
      have HS := Lib.hid (mix_row n (fun i => ((join a b i : Nat) : Int)) (fun i => (a i : Int)) p)
      have HJP := Lib.hid (HJ.out p)
      go_wp2
      go_region
      go_wp2
      exact ⟨⟨p + 1, by omega, by go_num, (HBL.out.setCell (Nat.le_refl _) _).drew, by rw [HJP.out, ← HS.out]; exact (HOA.out.set (1 + p) _).drew, (HOB.out.set_far (Nat.succ_ne_self _).symm _).drew, (HOR.out.set_far (by show w.heap.size ≠ w.heap.size + 1 + 1; omega) _).drew⟩, by simp [intOf]; omega⟩
    · have hk' : p = n := by omega
      subst hk'
      rw [HM.out] at HOA
      have c0 := HOA.out.cell (j := 0) (v := .int .i64 p) rfl
      have c1 := HOA.out.cell (j := 1) (v := .int .i64 p0) rfl
      have c2 := HOA.out.cell (j := 2) (v := .int .i64 p1) rfl
      have c3 := HOA.out.cell (j := 3) (v := .int .i64 p2) rfl
      have c4 := HOA.out.cell (j := 4) (v := .int .i64 p3) rfl
      have c5 := HOA.out.cell (j := 5) (v := .int .i64 p4) rfl
      have d0 := HOR.out.cell (j := 0) (v := .int .i64 0) rfl
      have d1 := HOR.out.cell (j := 1) (v := .int .i64 0) rfl
      have d2 := HOR.out.cell (j := 2) (v := .int .i64 0) rfl
      have d3 := HOR.out.cell (j := 3) (v := .int .i64 0) rfl
      have d4 := HOR.out.cell (j := 4) (v := .int .i64 0) rfl
      have d5 := HOR.out.cell (j := 5) (v := .int .i64 0) rfl
      have z0 := HOR.out.free 0
      have z1 := HOR.out.free 1
      have z2 := HOR.out.free 2
      have z3 := HOR.out.free 3
      have z4 := HOR.out.free 4
      have z5 := HOR.out.free 5
      go_wp2
      (try simp only [Exit.inBlock, Exit.then])
      refine bodyPost_ret (v := pairV p p0 p1 p2 p3 p4 0) (by simp [results, Tryd.results24, go_sem, pairV, d0, d1, d2, d3, d4, d5]) rfl ⟨rfl, ((((((HBL.out.setCell (by show w.heap.size ≤ w.heap.size + 1 + 1; omega) _).setCell (by show w.heap.size ≤ w.heap.size + 1 + 1; omega) _).setCell (by show w.heap.size ≤ w.heap.size + 1 + 1; omega) _).setCell (by show w.heap.size ≤ w.heap.size + 1 + 1; omega) _).setCell (by show w.heap.size ≤ w.heap.size + 1 + 1; omega) _).setCell (by show w.heap.size ≤ w.heap.size + 1 + 1; omega) _)⟩
end Go.Proofs.YtajhejdeijhccaaDoor.Graph
