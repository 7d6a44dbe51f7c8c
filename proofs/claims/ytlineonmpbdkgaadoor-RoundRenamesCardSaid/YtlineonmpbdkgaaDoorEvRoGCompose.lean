/-
  Products of graphs: the program's rows.
-/
import Derived.Test.YtlineonmpbdkgaaDoorEvRoGUnion
namespace Go.Proofs.YtlineonmpbdkgaaDoor.Graph
open Go Go.RowKit Go.Graph Go.Law
open Go.Proofs.YtlineonmpbdkgaaDoor.Col

/-- The rows of a that a row of b names, united: the first k of them. -/
def prodTo (R : List Int) (q : Nat) : Nat → Int
  | 0 => 0
  | k + 1 => if q / 2 ^ k % 2 = 1 then bits BinOp.or IntKind.i64 (prodTo R q k) (R.getD k 0) else prodTo R q k
theorem bit_yes (q k : Nat) (hq : q < 32) (hk : k < 5) (h : q / 2 ^ k % 2 = 1) : (bits BinOp.and IntKind.i64 (q : Int) (wrap64 (2 ^ k)) != 0) = true := by
  cases hb : (bits BinOp.and IntKind.i64 (q : Int) (wrap64 (2 ^ k)) == 0) with
  | true => have := bit_is q k hq hk hb; simp at this; omega
  | false => simp only [bne, hb, Bool.not_false]
theorem bit_no (q k : Nat) (hq : q < 32) (hk : k < 5) (h : ¬ q / 2 ^ k % 2 = 1) : (bits BinOp.and IntKind.i64 (q : Int) (wrap64 (2 ^ k)) != 0) = false := by
  cases hb : (bits BinOp.and IntKind.i64 (q : Int) (wrap64 (2 ^ k)) == 0) with
  | true => simp only [bne, hb, Bool.not_true]
  | false => have := bit_is q k hq hk hb; simp at this; omega
set_option maxRecDepth 100000 in
set_option maxHeartbeats 1000000 in
theorem compose_row (n p : Nat) (hn : n ≤ 5) (hp : p < 5) (A B : Nat) (R : List Int) (q : Nat) (hq : q < 32) (w : World) (hN : w.cell? ⟨B, 0, none⟩ = some (.int .i64 n)) (hb : w.cell? ⟨B, 1 + p, none⟩ = some (.int .i64 q))
    (ha : ∀ k : Nat, k < 5 → w.cell? ⟨A, 1 + k, none⟩ = some (.int .i64 (R.getD k 0))) :
    Calls Tryd.prog 77 #[.int .i64 p, .pointer (some ⟨B, 0, none⟩), .pointer (some ⟨A, 0, none⟩)] w fun e w' => e = .returned (.int .i64 (prodTo R q n)) ∧ Below w.heap.size w w' := by
  have HA := Lib.hid ha
  clear ha
  go_enter Tryd.func77, Tryd.ntmps77
  go_wp2
  go_loopw [5, 9] (fun r i wr => ∃ k m : Nat, k ≤ n ∧ i = .int .i64 k ∧ r = .int .i64 (prodTo R q k) ∧ wr = w.drewN m) (fun _ i _ => n - (intOf i).toNat)
  case atStart => exact ⟨0, 0, Nat.zero_le _, rfl, rfl, rfl⟩
  case round =>
    obtain ⟨k, m, hk, rfl, rfl, rfl⟩ := hrel
    by_cases hlt : k < n
    · have hc := HA.out k (by omega)
      have HP := Lib.hid (show prodTo R q (k + 1) = if q / 2 ^ k % 2 = 1 then bits BinOp.or IntKind.i64 (prodTo R q k) (R.getD k 0) else prodTo R q k from rfl)
      generalize prodTo R q k = s at *
      generalize R.getD k 0 = x at *
      by_cases hbit : q / 2 ^ k % 2 = 1
      · have hy := bit_yes q k hq (by omega) hbit
        have HBIT := Lib.hid hbit
        clear hbit
        go_wp2
        go_quiet (fail)
        go_wp2
        exact ⟨⟨k + 1, m + nq, by omega, by go_num, by rw [HP.out, if_pos HBIT.out], rfl⟩, by simp [intOf]; omega⟩
      · have hy := bit_no q k hq (by omega) hbit
        have HBIT := Lib.hid hbit
        clear hbit
        go_wp2
        go_quiet (fail)
        go_wp2
        exact ⟨⟨k + 1, m + nq, by omega, by go_num, by rw [HP.out, if_neg HBIT.out], rfl⟩, by simp [intOf]; omega⟩
    · have hk' : k = n := by omega
      subst hk'
      go_wp2
      go_ret
      exact ⟨rfl, below_drewN (Below.refl _ _) _⟩
/-- The rows of a product. -/
def prodRow (n : Nat) (r0 r1 r2 r3 r4 : Int) (s0 s1 s2 s3 s4 : Nat) : Nat → Int := fun i => prodTo [r0, r1, r2, r3, r4] ([s0, s1, s2, s3, s4].getD i 0) n
theorem row_nat {w : World} {B : Nat} {n : Int} {s0 s1 s2 s3 s4 : Nat} (h : Row6 w B n s0 s1 s2 s3 s4) : ∀ p : Nat, p < 5 → w.cell? ⟨B, 1 + p, none⟩ = some (.int .i64 (([s0, s1, s2, s3, s4].getD p 0 : Nat) : Int))
  | 0, _ => h.2.1
  | 1, _ => h.2.2.1
  | 2, _ => h.2.2.2.1
  | 3, _ => h.2.2.2.2.1
  | 4, _ => h.2.2.2.2.2
theorem nat_lt {s0 s1 s2 s3 s4 : Nat} (h0 : s0 < 32) (h1 : s1 < 32) (h2 : s2 < 32) (h3 : s3 < 32) (h4 : s4 < 32) : ∀ p : Nat, p < 5 → [s0, s1, s2, s3, s4].getD p 0 < 32
  | 0, _ => h0
  | 1, _ => h1
  | 2, _ => h2
  | 3, _ => h3
  | 4, _ => h4
set_option maxRecDepth 100000 in
set_option maxHeartbeats 1000000 in
theorem compose_ok (n : Nat) (h5 : n ≤ 5) (r0 r1 r2 r3 r4 : Int) (s0 s1 s2 s3 s4 : Nat) (hs0 : s0 < 32) (hs1 : s1 < 32) (hs2 : s2 < 32) (hs3 : s3 < 32) (hs4 : s4 < 32) (a0 a1 a2 a3 a4 : Int) (hm : made (prodRow n r0 r1 r2 r3 r4 s0 s1 s2 s3 s4) n = [a0, a1, a2, a3, a4]) (w : World) :
    Calls Tryd.prog 57 #[.agg #[.int .i64 n, .int .i64 r0, .int .i64 r1, .int .i64 r2, .int .i64 r3, .int .i64 r4], .agg #[.int .i64 n, .int .i64 s0, .int .i64 s1, .int .i64 s2, .int .i64 s3, .int .i64 s4]] w fun e w' => e = .returned (.agg #[.int .i64 n, .int .i64 a0, .int .i64 a1, .int .i64 a2, .int .i64 a3, .int .i64 a4]) ∧ Below w.heap.size w w' := by
  have HM := Lib.hid hm
  have HL := Lib.hid (nat_lt hs0 hs1 hs2 hs3 hs4)
  clear hm hs0 hs1 hs2 hs3 hs4
  have T0 := Lib.hid (((below_alloc w (.cells #[.int .i64 n, .int .i64 r0, .int .i64 r1, .int .i64 r2, .int .i64 r3, .int .i64 r4] 24)).alloc (by rw [size_alloc]; omega) (.cells #[.int .i64 n, .int .i64 s0, .int .i64 s1, .int .i64 s2, .int .i64 s3, .int .i64 s4] 24)).alloc (by rw [size_alloc, size_alloc]; omega) (.cells #[.int .i64 0, .int .i64 0, .int .i64 0, .int .i64 0, .int .i64 0, .int .i64 0] 24))
  have RO := Lib.hid (own_new ((w.alloc (.cells #[.int .i64 n, .int .i64 r0, .int .i64 r1, .int .i64 r2, .int .i64 r3, .int .i64 r4] 24)).alloc (.cells #[.int .i64 n, .int .i64 s0, .int .i64 s1, .int .i64 s2, .int .i64 s3, .int .i64 s4] 24)) [.int .i64 0, .int .i64 0, .int .i64 0, .int .i64 0, .int .i64 0, .int .i64 0] 24)
  rw [size_alloc, size_alloc] at RO
  have RA := Lib.hid (row_alloc (row_alloc (row_new w n r0 r1 r2 r3 r4) (.cells #[.int .i64 n, .int .i64 s0, .int .i64 s1, .int .i64 s2, .int .i64 s3, .int .i64 s4] 24)) (.cells #[.int .i64 0, .int .i64 0, .int .i64 0, .int .i64 0, .int .i64 0, .int .i64 0] 24))
  have RB := Lib.hid (row_alloc (row_new (w.alloc (.cells #[.int .i64 n, .int .i64 r0, .int .i64 r1, .int .i64 r2, .int .i64 r3, .int .i64 r4] 24)) n s0 s1 s2 s3 s4) (.cells #[.int .i64 0, .int .i64 0, .int .i64 0, .int .i64 0, .int .i64 0, .int .i64 0] 24))
  rw [size_alloc] at RB
  go_enter Tryd.func57, Tryd.ntmps57
  go_wp2_with (go_at_call 72; refine (build83' n h5 (prodRow n r0 r1 r2 r3 r4 s0 s1 s2 s3 s4) a0 a1 a2 a3 a4 HM.out ⟨w.heap.size + 1, 0, none⟩ ⟨w.heap.size, 0, none⟩ _ (fun i hi w' hw => compose_row n i h5 (by omega) _ _ _ _ (HL.out i (by omega)) _ (row_below RB.out hw).1 (row_nat (row_below RB.out hw) i (by omega)) (fun k hk => row_at6 (row_below RA.out hw) k hk))).mono ?_; rintro e w2 ⟨rfl, hb2⟩; have t2 := Lib.hid (T0.out.trans (bel_lg hb2 T0.out.size)); have O := Lib.hid (RO.out.below hb2 RO.out.lt); clear hb2; have d0 := O.out.cell (j := 0) (v := .int .i64 0) rfl; have d1 := O.out.cell (j := 1) (v := .int .i64 0) rfl; have d2 := O.out.cell (j := 2) (v := .int .i64 0) rfl; have d3 := O.out.cell (j := 3) (v := .int .i64 0) rfl; have d4 := O.out.cell (j := 4) (v := .int .i64 0) rfl; have d5 := O.out.cell (j := 5) (v := .int .i64 0) rfl; have z0 := O.out.free 0; have z1 := O.out.free 1; have z2 := O.out.free 2; have z3 := O.out.free 3; have z4 := O.out.free 4; have z5 := O.out.free 5)
  (try simp only [Exit.inBlock, Exit.then])
  refine bodyPost_ret (v := .agg #[.int .i64 n, .int .i64 a0, .int .i64 a1, .int .i64 a2, .int .i64 a3, .int .i64 a4]) (by simp [results, Tryd.results57, go_sem, d0, d1, d2, d3, d4, d5]) rfl ⟨rfl, ((((((t2.out.setCell (by show w.heap.size ≤ w.heap.size + 1 + 1; omega) _).setCell (by show w.heap.size ≤ w.heap.size + 1 + 1; omega) _).setCell (by show w.heap.size ≤ w.heap.size + 1 + 1; omega) _).setCell (by show w.heap.size ≤ w.heap.size + 1 + 1; omega) _).setCell (by show w.heap.size ≤ w.heap.size + 1 + 1; omega) _).setCell (by show w.heap.size ≤ w.heap.size + 1 + 1; omega) _)⟩
set_option maxRecDepth 100000 in
set_option maxHeartbeats 1000000 in
theorem product_bad (n r0 r1 r2 r3 r4 m s0 s1 s2 s3 s4 c : Int) (hc : c ≠ 0) (hb : ∀ w : World, Calls Tryd.prog 56 #[.agg #[.int .i64 n, .int .i64 r0, .int .i64 r1, .int .i64 r2, .int .i64 r3, .int .i64 r4], .agg #[.int .i64 m, .int .i64 s0, .int .i64 s1, .int .i64 s2, .int .i64 s3, .int .i64 s4]] w fun e w' => e = .returned (.int .i64 c) ∧ Below w.heap.size w w') (w : World) :
    Calls Tryd.prog 26 #[.agg #[.int .i64 n, .int .i64 r0, .int .i64 r1, .int .i64 r2, .int .i64 r3, .int .i64 r4], .agg #[.int .i64 m, .int .i64 s0, .int .i64 s1, .int .i64 s2, .int .i64 s3, .int .i64 s4]] w fun e w' => e = .returned (pairV 0 0 0 0 0 0 c) ∧ Below w.heap.size w w' := by
  have e1 : (c != 0) = true := by simpa using hc
  clear hc
  have HB := Lib.hid hb
  clear hb
  have T0 := Lib.hid (((below_alloc w (.cells #[.int .i64 n, .int .i64 r0, .int .i64 r1, .int .i64 r2, .int .i64 r3, .int .i64 r4] 24)).alloc (by rw [size_alloc]; omega) (.cells #[.int .i64 m, .int .i64 s0, .int .i64 s1, .int .i64 s2, .int .i64 s3, .int .i64 s4] 24)).alloc (by rw [size_alloc, size_alloc]; omega) (.cells #[.int .i64 0, .int .i64 0, .int .i64 0, .int .i64 0, .int .i64 0, .int .i64 0] 24))
  have RO := Lib.hid (own_new ((w.alloc (.cells #[.int .i64 n, .int .i64 r0, .int .i64 r1, .int .i64 r2, .int .i64 r3, .int .i64 r4] 24)).alloc (.cells #[.int .i64 m, .int .i64 s0, .int .i64 s1, .int .i64 s2, .int .i64 s3, .int .i64 s4] 24)) [.int .i64 0, .int .i64 0, .int .i64 0, .int .i64 0, .int .i64 0, .int .i64 0] 24)
  rw [size_alloc, size_alloc] at RO
  go_enter Tryd.func26, Tryd.ntmps26
  go_wp2_with (go_at_call 56; refine (HB.out _).mono ?_; rintro e w1 ⟨rfl, hb1⟩; have t1 := Lib.hid (T0.out.trans (bel_lg hb1 T0.out.size)); have O := Lib.hid (RO.out.below hb1 RO.out.lt); clear hb1; have d0 := O.out.cell (j := 0) (v := .int .i64 0) rfl; have d1 := O.out.cell (j := 1) (v := .int .i64 0) rfl; have d2 := O.out.cell (j := 2) (v := .int .i64 0) rfl; have d3 := O.out.cell (j := 3) (v := .int .i64 0) rfl; have d4 := O.out.cell (j := 4) (v := .int .i64 0) rfl; have d5 := O.out.cell (j := 5) (v := .int .i64 0) rfl; have z0 := O.out.free 0; have z1 := O.out.free 1; have z2 := O.out.free 2; have z3 := O.out.free 3; have z4 := O.out.free 4; have z5 := O.out.free 5)
  (try simp only [Exit.inBlock, Exit.then])
  refine bodyPost_ret (v := pairV 0 0 0 0 0 0 c) (by simp [results, Tryd.results26, go_sem, pairV, d0, d1, d2, d3, d4, d5]) rfl ⟨rfl, ((((((t1.out.setCell (by show w.heap.size ≤ w.heap.size + 1 + 1; omega) _).setCell (by show w.heap.size ≤ w.heap.size + 1 + 1; omega) _).setCell (by show w.heap.size ≤ w.heap.size + 1 + 1; omega) _).setCell (by show w.heap.size ≤ w.heap.size + 1 + 1; omega) _).setCell (by show w.heap.size ≤ w.heap.size + 1 + 1; omega) _).setCell (by show w.heap.size ≤ w.heap.size + 1 + 1; omega) _)⟩
set_option maxRecDepth 100000 in
set_option maxHeartbeats 1000000 in
theorem product_ok (n : Nat) (h5 : n ≤ 5) (r0 r1 r2 r3 r4 : Int) (s0 s1 s2 s3 s4 : Nat) (hs0 : s0 < 32) (hs1 : s1 < 32) (hs2 : s2 < 32) (hs3 : s3 < 32) (hs4 : s4 < 32) (a0 a1 a2 a3 a4 : Int) (hm : made (prodRow n r0 r1 r2 r3 r4 s0 s1 s2 s3 s4) n = [a0, a1, a2, a3, a4])
    (hb : ∀ w : World, Calls Tryd.prog 56 #[.agg #[.int .i64 n, .int .i64 r0, .int .i64 r1, .int .i64 r2, .int .i64 r3, .int .i64 r4], .agg #[.int .i64 n, .int .i64 s0, .int .i64 s1, .int .i64 s2, .int .i64 s3, .int .i64 s4]] w fun e w' => e = .returned (.int .i64 0) ∧ Below w.heap.size w w') (w : World) :
    Calls Tryd.prog 26 #[.agg #[.int .i64 n, .int .i64 r0, .int .i64 r1, .int .i64 r2, .int .i64 r3, .int .i64 r4], .agg #[.int .i64 n, .int .i64 s0, .int .i64 s1, .int .i64 s2, .int .i64 s3, .int .i64 s4]] w fun e w' => e = .returned (pairV n a0 a1 a2 a3 a4 0) ∧ Below w.heap.size w w' := by
  have HB := Lib.hid hb
  have HP := Lib.hid (compose_ok n h5 r0 r1 r2 r3 r4 s0 s1 s2 s3 s4 hs0 hs1 hs2 hs3 hs4 a0 a1 a2 a3 a4 hm)
  clear hb hm hs0 hs1 hs2 hs3 hs4
  have T0 := Lib.hid (((below_alloc w (.cells #[.int .i64 n, .int .i64 r0, .int .i64 r1, .int .i64 r2, .int .i64 r3, .int .i64 r4] 24)).alloc (by rw [size_alloc]; omega) (.cells #[.int .i64 n, .int .i64 s0, .int .i64 s1, .int .i64 s2, .int .i64 s3, .int .i64 s4] 24)).alloc (by rw [size_alloc, size_alloc]; omega) (.cells #[.int .i64 0, .int .i64 0, .int .i64 0, .int .i64 0, .int .i64 0, .int .i64 0] 24))
  have RO := Lib.hid (own_new ((w.alloc (.cells #[.int .i64 n, .int .i64 r0, .int .i64 r1, .int .i64 r2, .int .i64 r3, .int .i64 r4] 24)).alloc (.cells #[.int .i64 n, .int .i64 s0, .int .i64 s1, .int .i64 s2, .int .i64 s3, .int .i64 s4] 24)) [.int .i64 0, .int .i64 0, .int .i64 0, .int .i64 0, .int .i64 0, .int .i64 0] 24)
  rw [size_alloc, size_alloc] at RO
  have RA := Lib.hid (row_alloc (row_alloc (row_new w n r0 r1 r2 r3 r4) (.cells #[.int .i64 n, .int .i64 s0, .int .i64 s1, .int .i64 s2, .int .i64 s3, .int .i64 s4] 24)) (.cells #[.int .i64 0, .int .i64 0, .int .i64 0, .int .i64 0, .int .i64 0, .int .i64 0] 24))
  have RB := Lib.hid (row_alloc (row_new (w.alloc (.cells #[.int .i64 n, .int .i64 r0, .int .i64 r1, .int .i64 r2, .int .i64 r3, .int .i64 r4] 24)) n s0 s1 s2 s3 s4) (.cells #[.int .i64 0, .int .i64 0, .int .i64 0, .int .i64 0, .int .i64 0, .int .i64 0] 24))
  rw [size_alloc] at RB
  go_enter Tryd.func26, Tryd.ntmps26
  go_wp2_with first
    | (go_at_call 57; refine (HP.out _).mono ?_; rintro e w2 ⟨rfl, hb2⟩; have t2 := Lib.hid (t1.out.trans (bel_lg hb2 t1.out.size)); have O := Lib.hid (RO1.out.below hb2 RO1.out.lt); clear hb2; have d0 := O.out.cell (j := 0) (v := .int .i64 0) rfl; have d1 := O.out.cell (j := 1) (v := .int .i64 0) rfl; have d2 := O.out.cell (j := 2) (v := .int .i64 0) rfl; have d3 := O.out.cell (j := 3) (v := .int .i64 0) rfl; have d4 := O.out.cell (j := 4) (v := .int .i64 0) rfl; have d5 := O.out.cell (j := 5) (v := .int .i64 0) rfl; have z0 := O.out.free 0; have z1 := O.out.free 1; have z2 := O.out.free 2; have z3 := O.out.free 3; have z4 := O.out.free 4; have z5 := O.out.free 5)
    | (go_at_call 56; refine (HB.out _).mono ?_; rintro e w1 ⟨rfl, hb1⟩; have t1 := Lib.hid (T0.out.trans (bel_lg hb1 T0.out.size)); have RA1 := Lib.hid (row_below RA.out hb1); have RB1 := Lib.hid (row_below RB.out hb1); have RO1 := Lib.hid (RO.out.below hb1 RO.out.lt); clear hb1; obtain ⟨q0, q1, q2, q3, q4, q5⟩ := RA1.out; obtain ⟨o0, o1, o2, o3, o4, o5⟩ := RB1.out)
  (try simp only [Exit.inBlock, Exit.then])
  refine bodyPost_ret (v := pairV n a0 a1 a2 a3 a4 0) (by simp [results, Tryd.results26, go_sem, pairV, d0, d1, d2, d3, d4, d5]) rfl ⟨rfl, ((((((t2.out.setCell (by show w.heap.size ≤ w.heap.size + 1 + 1; omega) _).setCell (by show w.heap.size ≤ w.heap.size + 1 + 1; omega) _).setCell (by show w.heap.size ≤ w.heap.size + 1 + 1; omega) _).setCell (by show w.heap.size ≤ w.heap.size + 1 + 1; omega) _).setCell (by show w.heap.size ≤ w.heap.size + 1 + 1; omega) _).setCell (by show w.heap.size ≤ w.heap.size + 1 + 1; omega) _)⟩
end Go.Proofs.YtlineonmpbdkgaaDoor.Graph
