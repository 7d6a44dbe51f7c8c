/-
  Calls on well-formed graphs: products, unions.
-/
import Derived.Test.YtlineonmpbdkgaaDoorEvRoGBuilds
import Derived.Test.YtlineonmpbdkgaaDoorEvGRel
namespace Go.Proofs.YtlineonmpbdkgaaDoor.Graph
open Go Go.RowKit Go.Graph Go.Law
open Go.Proofs.YtlineonmpbdkgaaDoor.Col

/-- The rows of a that a row of b names, united: the first k of them. -/
def prodTo (R : List Int) (q : Nat) : Nat → Int
  | 0 => 0
  | k + 1 => if q / 2 ^ k % 2 = 1 then bits BinOp.or IntKind.i64 (prodTo R q k) (R.getD k 0) else prodTo R q k
theorem bit_yes (q k : Nat) (hq : q < 32) (hk : k < 5) (h : q / 2 ^ k % 2 = 1) : (bits BinOp.and IntKind.i64 (q : Int) (wrap64 (2 ^ k)) != 0) = true := by
  cases hb : (bits BinOp.and IntKind.i64 (q : Int) (wrap64 (2 ^ k)) == 0) with
  | true => have := bit_is q k hq hk hb; simp at this; omega
  | false => simp only [bne, hb, Bool.not_false]
theorem bit_no (q k : Nat) (hq : q < 32) (hk : k < 5) (h : ¬ q / 2 ^ k % 2 = 1) : (bits BinOp.and IntKind.i64 (q : Int) (wrap64 (2 ^ k)) != 0) = false := by
  cases hb : (bits BinOp.and IntKind.i64 (q : Int) (wrap64 (2 ^ k)) == 0) with
  | true => simp only [bne, hb, Bool.not_true]
  | false => have := bit_is q k hq hk hb; simp at this; omega
set_option maxRecDepth 100000 in
set_option maxHeartbeats 1000000 in
theorem compose_row (n p : Nat) (hn : n ≤ 5) (hp : p < 5) (A B : Nat) (R : List Int) (q : Nat) (hq : q < 32) (w : World) (hN : w.cell? ⟨B, 0, none⟩ = some (.int .i64 n)) (hb : w.cell? ⟨B, 1 + p, none⟩ = some (.int .i64 q))
    (ha : ∀ k : Nat, k < 5 → w.cell? ⟨A, 1 + k, none⟩ = some (.int .i64 (R.getD k 0))) :
    Calls Tryd.prog 77 #[.int .i64 p, .pointer (some ⟨B, 0, none⟩), .pointer (some ⟨A, 0, none⟩)] w fun e w' => e = .returned (.int .i64 (prodTo R q n)) ∧ Below w.heap.size w w' := by
  have HA := Lib.hid ha
  clear ha
  go_enter Tryd.func77, Tryd.ntmps77
  go_wp2
  go_loopw [5, 9] (fun r i wr => ∃ k m : Nat, k ≤ n ∧ i = .int .i64 k ∧ r = .int .i64 (prodTo R q k) ∧ wr = w.drewN m) (fun _ i _ => n - (intOf i).toNat)
  case atStart => exact ⟨0, 0, Nat.zero_le _, rfl, rfl, rfl⟩
  case round =>
    obtain ⟨k, m, hk, rfl, rfl, rfl⟩ := hrel
    by_cases hlt : k < n
    · have hc := HA.out k (by omega)
      have HP := Lib.hid (show prodTo R q (k + 1) = if q / 2 ^ k % 2 = 1 then bits BinOp.or IntKind.i64 (prodTo R q k) (R.getD k 0) else prodTo R q k from rfl)
      generalize prodTo R q k = s at *
      generalize R.getD k 0 = x at *
      by_cases hbit : q / 2 ^ k % 2 = 1
      · have hy := bit_yes q k hq (by omega) hbit
        have HBIT := Lib.hid hbit
        clear hbit
        go_wp2
        go_quiet (fail)
        go_wp2
        exact ⟨⟨k + 1, m + nq, by omega, by go_num, by rw [HP.out, if_pos HBIT.out], rfl⟩, by simp [intOf]; omega⟩
      · have hy := bit_no q k hq (by omega) hbit
        have HBIT := Lib.hid hbit
        clear hbit
        go_wp2
        go_quiet (fail)
        go_wp2
        exact ⟨⟨k + 1, m + nq, by omega, by go_num, by rw [HP.out, if_neg HBIT.out], rfl⟩, by simp [intOf]; omega⟩
    · have hk' : k = n := by omega
      subst hk'
      go_wp2
      go_ret
      exact ⟨rfl, below_drewN (Below.refl _ _) _⟩
/-- The rows of a product. -/
def prodRow (n : Nat) (r0 r1 r2 r3 r4 : Int) (s0 s1 s2 s3 s4 : Nat) : Nat → Int := fun i => prodTo [r0, r1, r2, r3, r4] ([s0, s1, s2, s3, s4].getD i 0) n
theorem row_nat {w : World} {B : Nat} {n : Int} {s0 s1 s2 s3 s4 : Nat} (h : Row6 w B n s0 s1 s2 s3 s4) : ∀ p : Nat, p < 5 → w.cell? ⟨B, 1 + p, none⟩ = some (.int .i64 (([s0, s1, s2, s3, s4].getD p 0 : Nat) : Int))
  | 0, _ => h.2.1
  | 1, _ => h.2.2.1
  | 2, _ => h.2.2.2.1
  | 3, _ => h.2.2.2.2.1
  | 4, _ => h.2.2.2.2.2
theorem nat_lt {s0 s1 s2 s3 s4 : Nat} (h0 : s0 < 32) (h1 : s1 < 32) (h2 : s2 < 32) (h3 : s3 < 32) (h4 : s4 < 32) : ∀ p : Nat, p < 5 → [s0, s1, s2, s3, s4].getD p 0 < 32
  | 0, _ => h0
  | 1, _ => h1
  | 2, _ => h2
  | 3, _ => h3
  | 4, _ => h4
set_option maxRecDepth 100000 in
set_option maxHeartbeats 1000000 in
theorem compose_ok (n : Nat) (h5 : n ≤ 5) (r0 r1 r2 r3 r4 : Int) (s0 s1 s2 s3 s4 : Nat) (hs0 : s0 < 32) (hs1 : s1 < 32) (hs2 : s2 < 32) (hs3 : s3 < 32) (hs4 : s4 < 32) (a0 a1 a2 a3 a4 : Int) (hm : made (prodRow n r0 r1 r2 r3 r4 s0 s1 s2 s3 s4) n = [a0, a1, a2, a3, a4]) (w : World) :
    Calls Tryd.prog 57 #[.agg #[.int .i64 n, .int .i64 r0, .int .i64 r1, .int .i64 r2, .int .i64 r3, .int .i64 r4], .agg #[.int .i64 n, .int .i64 s0, .int .i64 s1, .int .i64 s2, .int .i64 s3, .int .i64 s4]] w fun e w' => e = .returned (.agg #[.int .i64 n, .int .i64 a0, .int .i64 a1, .int .i64 a2, .int .i64 a3, .int .i64 a4]) ∧ Below w.heap.size w w' := by
  have HM := Lib.hid hm
  have HL := Lib.hid (nat_lt hs0 hs1 hs2 hs3 hs4)
  clear hm hs0 hs1 hs2 hs3 hs4
  have T0 := Lib.hid (((below_alloc w (.cells #[.int .i64 n, .int .i64 r0, .int .i64 r1, .int .i64 r2, .int .i64 r3, .int .i64 r4] 24)).alloc (by rw [size_alloc]; omega) (.cells #[.int .i64 n, .int .i64 s0, .int .i64 s1, .int .i64 s2, .int .i64 s3, .int .i64 s4] 24)).alloc (by rw [size_alloc, size_alloc]; omega) (.cells #[.int .i64 0, .int .i64 0, .int .i64 0, .int .i64 0, .int .i64 0, .int .i64 0] 24))
  have RO := Lib.hid (own_new ((w.alloc (.cells #[.int .i64 n, .int .i64 r0, .int .i64 r1, .int .i64 r2, .int .i64 r3, .int .i64 r4] 24)).alloc (.cells #[.int .i64 n, .int .i64 s0, .int .i64 s1, .int .i64 s2, .int .i64 s3, .int .i64 s4] 24)) [.int .i64 0, .int .i64 0, .int .i64 0, .int .i64 0, .int .i64 0, .int .i64 0] 24)
  rw [size_alloc, size_alloc] at RO
  have RA := Lib.hid (row_alloc (row_alloc (row_new w n r0 r1 r2 r3 r4) (.cells #[.int .i64 n, .int .i64 s0, .int .i64 s1, .int .i64 s2, .int .i64 s3, .int .i64 s4] 24)) (.cells #[.int .i64 0, .int .i64 0, .int .i64 0, .int .i64 0, .int .i64 0, .int .i64 0] 24))
  have RB := Lib.hid (row_alloc (row_new (w.alloc (.cells #[.int .i64 n, .int .i64 r0, .int .i64 r1, .int .i64 r2, .int .i64 r3, .int .i64 r4] 24)) n s0 s1 s2 s3 s4) (.cells #[.int .i64 0, .int .i64 0, .int .i64 0, .int .i64 0, .int .i64 0, .int .i64 0] 24))
  rw [size_alloc] at RB
  go_enter Tryd.func57, Tryd.ntmps57
  go_wp2_with (go_at_call 72; refine (build83' n h5 (prodRow n r0 r1 r2 r3 r4 s0 s1 s2 s3 s4) a0 a1 a2 a3 a4 HM.out ⟨w.heap.size + 1, 0, none⟩ ⟨w.heap.size, 0, none⟩ _ (fun i hi w' hw => compose_row n i h5 (by omega) _ _ _ _ (HL.out i (by omega)) _ (row_below RB.out hw).1 (row_nat (row_below RB.out hw) i (by omega)) (fun k hk => row_at6 (row_below RA.out hw) k hk))).mono ?_; rintro e w2 ⟨rfl, hb2⟩; have t2 := Lib.hid (T0.out.trans (bel_lg hb2 T0.out.size)); have O := Lib.hid (RO.out.below hb2 RO.out.lt); clear hb2; have d0 := O.out.cell (j := 0) (v := .int .i64 0) rfl; have d1 := O.out.cell (j := 1) (v := .int .i64 0) rfl; have d2 := O.out.cell (j := 2) (v := .int .i64 0) rfl; have d3 := O.out.cell (j := 3) (v := .int .i64 0) rfl; have d4 := O.out.cell (j := 4) (v := .int .i64 0) rfl; have d5 := O.out.cell (j := 5) (v := .int .i64 0) rfl; have z0 := O.out.free 0; have z1 := O.out.free 1; have z2 := O.out.free 2; have z3 := O.out.free 3; have z4 := O.out.free 4; have z5 := O.out.free 5)
  (try simp only [Exit.inBlock, Exit.then])
  refine bodyPost_ret (v := .agg #[.int .i64 n, .int .i64 a0, .int .i64 a1, .int .i64 a2, .int .i64 a3, .int .i64 a4]) (by simp [results, Tryd.results57, go_sem, d0, d1, d2, d3, d4, d5]) rfl ⟨rfl, ((((((t2.out.setCell (by show w.heap.size ≤ w.heap.size + 1 + 1; omega) _).setCell (by show w.heap.size ≤ w.heap.size + 1 + 1; omega) _).setCell (by show w.heap.size ≤ w.heap.size + 1 + 1; omega) _).setCell (by show w.heap.size ≤ w.heap.size + 1 + 1; omega) _).setCell (by show w.heap.size ≤ w.heap.size + 1 + 1; omega) _).setCell (by show w.heap.size ≤ w.heap.size + 1 + 1; omega) _)⟩
set_option maxRecDepth 100000 in
set_option maxHeartbeats 1000000 in
theorem product_bad (n r0 r1 r2 r3 r4 m s0 s1 s2 s3 s4 c : Int) (hc : c ≠ 0) (hb : ∀ w : World, Calls Tryd.prog 56 #[.agg #[.int .i64 n, .int .i64 r0, .int .i64 r1, .int .i64 r2, .int .i64 r3, .int .i64 r4], .agg #[.int .i64 m, .int .i64 s0, .int .i64 s1, .int .i64 s2, .int .i64 s3, .int .i64 s4]] w fun e w' => e = .returned (.int .i64 c) ∧ Below w.heap.size w w') (w : World) :
    Calls Tryd.prog 26 #[.agg #[.int .i64 n, .int .i64 r0, .int .i64 r1, .int .i64 r2, .int .i64 r3, .int .i64 r4], .agg #[.int .i64 m, .int .i64 s0, .int .i64 s1, .int .i64 s2, .int .i64 s3, .int .i64 s4]] w fun e w' => e = .returned (pairV 0 0 0 0 0 0 c) ∧ Below w.heap.size w w' := by
  have e1 : (c != 0) = true := by simpa using hc
  clear hc
  have HB := Lib.hid hb
  clear hb
  have T0 := Lib.hid (((below_alloc w (.cells #[.int .i64 n, .int .i64 r0, .int .i64 r1, .int .i64 r2, .int .i64 r3, .int .i64 r4] 24)).alloc (by rw [size_alloc]; omega) (.cells #[.int .i64 m, .int .i64 s0, .int .i64 s1, .int .i64 s2, .int .i64 s3, .int .i64 s4] 24)).alloc (by rw [size_alloc, size_alloc]; omega) (.cells #[.int .i64 0, .int .i64 0, .int .i64 0, .int .i64 0, .int .i64 0, .int .i64 0] 24))
  have RO := Lib.hid (own_new ((w.alloc (.cells #[.int .i64 n, .int .i64 r0, .int .i64 r1, .int .i64 r2, .int .i64 r3, .int .i64 r4] 24)).alloc (.cells #[.int .i64 m, .int .i64 s0, .int .i64 s1, .int .i64 s2, .int .i64 s3, .int .i64 s4] 24)) [.int .i64 0, .int .i64 0, .int .i64 0, .int .i64 0, .int .i64 0, .int .i64 0] 24)
  rw [size_alloc, size_alloc] at RO
  go_enter Tryd.func26, Tryd.ntmps26
  go_wp2_with (go_at_call 56; refine (HB.out _).mono ?_; rintro e w1 ⟨rfl, hb1⟩; have t1 := Lib.hid (T0.out.trans (bel_lg hb1 T0.out.size)); have O := Lib.hid (RO.out.below hb1 RO.out.lt); clear hb1; have d0 := O.out.cell (j := 0) (v := .int .i64 0) rfl; have d1 := O.out.cell (j := 1) (v := .int .i64 0) rfl; have d2 := O.out.cell (j := 2) (v := .int .i64 0) rfl; have d3 := O.out.cell (j := 3) (v := .int .i64 0) rfl; have d4 := O.out.cell (j := 4) (v := .int .i64 0) rfl; have d5 := O.out.cell (j := 5) (v := .int .i64 0) rfl; have z0 := O.out.free 0; have z1 := O.out.free 1; have z2 := O.out.free 2; have z3 := O.out.free 3; have z4 := O.out.free 4; have z5 := O.out.free 5)
  (try simp only [Exit.inBlock, Exit.then])
  refine bodyPost_ret (v := pairV 0 0 0 0 0 0 c) (by simp [results, Tryd.results26, go_sem, pairV, d0, d1, d2, d3, d4, d5]) rfl ⟨rfl, ((((((t1.out.setCell (by show w.heap.size ≤ w.heap.size + 1 + 1; omega) _).setCell (by show w.heap.size ≤ w.heap.size + 1 + 1; omega) _).setCell (by show w.heap.size ≤ w.heap.size + 1 + 1; omega) _).setCell (by show w.heap.size ≤ w.heap.size + 1 + 1; omega) _).setCell (by show w.heap.size ≤ w.heap.size + 1 + 1; omega) _).setCell (by show w.heap.size ≤ w.heap.size + 1 + 1; omega) _)⟩
set_option maxRecDepth 100000 in
set_option maxHeartbeats 1000000 in
theorem product_ok (n : Nat) (h5 : n ≤ 5) (r0 r1 r2 r3 r4 : Int) (s0 s1 s2 s3 s4 : Nat) (hs0 : s0 < 32) (hs1 : s1 < 32) (hs2 : s2 < 32) (hs3 : s3 < 32) (hs4 : s4 < 32) (a0 a1 a2 a3 a4 : Int) (hm : made (prodRow n r0 r1 r2 r3 r4 s0 s1 s2 s3 s4) n = [a0, a1, a2, a3, a4])
    (hb : ∀ w : World, Calls Tryd.prog 56 #[.agg #[.int .i64 n, .int .i64 r0, .int .i64 r1, .int .i64 r2, .int .i64 r3, .int .i64 r4], .agg #[.int .i64 n, .int .i64 s0, .int .i64 s1, .int .i64 s2, .int .i64 s3, .int .i64 s4]] w fun e w' => e = .returned (.int .i64 0) ∧ Below w.heap.size w w') (w : World) :
    Calls Tryd.prog 26 #[.agg #[.int .i64 n, .int .i64 r0, .int .i64 r1, .int .i64 r2, .int .i64 r3, .int .i64 r4], .agg #[.int .i64 n, .int .i64 s0, .int .i64 s1, .int .i64 s2, .int .i64 s3, .int .i64 s4]] w fun e w' => e = .returned (pairV n a0 a1 a2 a3 a4 0) ∧ Below w.heap.size w w' := by
  have HB := Lib.hid hb
  have HP := Lib.hid (compose_ok n h5 r0 r1 r2 r3 r4 s0 s1 s2 s3 s4 hs0 hs1 hs2 hs3 hs4 a0 a1 a2 a3 a4 hm)
  clear hb hm hs0 hs1 hs2 hs3 hs4
  have T0 := Lib.hid (((below_alloc w (.cells #[.int .i64 n, .int .i64 r0, .int .i64 r1, .int .i64 r2, .int .i64 r3, .int .i64 r4] 24)).alloc (by rw [size_alloc]; omega) (.cells #[.int .i64 n, .int .i64 s0, .int .i64 s1, .int .i64 s2, .int .i64 s3, .int .i64 s4] 24)).alloc (by rw [size_alloc, size_alloc]; omega) (.cells #[.int .i64 0, .int .i64 0, .int .i64 0, .int .i64 0, .int .i64 0, .int .i64 0] 24))
  have RO := Lib.hid (own_new ((w.alloc (.cells #[.int .i64 n, .int .i64 r0, .int .i64 r1, .int .i64 r2, .int .i64 r3, .int .i64 r4] 24)).alloc (.cells #[.int .i64 n, .int .i64 s0, .int .i64 s1, .int .i64 s2, .int .i64 s3, .int .i64 s4] 24)) [.int .i64 0, .int .i64 0, .int .i64 0, .int .i64 0, .int .i64 0, .int .i64 0] 24)
  rw [size_alloc, size_alloc] at RO
  have RA := Lib.hid (row_alloc (row_alloc (row_new w n r0 r1 r2 r3 r4) (.cells #[.int .i64 n, .int .i64 s0, .int .i64 s1, .int .i64 s2, .int .i64 s3, .int .i64 s4] 24)) (.cells #[.int .i64 0, .int .i64 0, .int .i64 0, .int .i64 0, .int .i64 0, .int .i64 0] 24))
  have RB := Lib.hid (row_alloc (row_new (w.alloc (.cells #[.int .i64 n, .int .i64 r0, .int .i64 r1, .int .i64 r2, .int .i64 r3, .int .i64 r4] 24)) n s0 s1 s2 s3 s4) (.cells #[.int .i64 0, .int .i64 0, .int .i64 0, .int .i64 0, .int .i64 0, .int .i64 0] 24))
  rw [size_alloc] at RB
  go_enter Tryd.func26, Tryd.ntmps26
  go_wp2_with first
    | (go_at_call 57; refine (HP.out _).mono ?_; rintro e w2 ⟨rfl, hb2⟩; have t2 := Lib.hid (t1.out.trans (bel_lg hb2 t1.out.size)); have O := Lib.hid (RO1.out.below hb2 RO1.out.lt); clear hb2; have d0 := O.out.cell (j := 0) (v := .int .i64 0) rfl; have d1 := O.out.cell (j := 1) (v := .int .i64 0) rfl; have d2 := O.out.cell (j := 2) (v := .int .i64 0) rfl; have d3 := O.out.cell (j := 3) (v := .int .i64 0) rfl; have d4 := O.out.cell (j := 4) (v := .int .i64 0) rfl; have d5 := O.out.cell (j := 5) (v := .int .i64 0) rfl; have z0 := O.out.free 0; have z1 := O.out.free 1; have z2 := O.out.free 2; have z3 := O.out.free 3; have z4 := O.out.free 4; have z5 := O.out.free 5)
    | (go_at_call 56; refine (HB.out _).mono ?_; rintro e w1 ⟨rfl, hb1⟩; have t1 := Lib.hid (T0.out.trans (bel_lg hb1 T0.out.size)); have RA1 := Lib.hid (row_below RA.out hb1); have RB1 := Lib.hid (row_below RB.out hb1); have RO1 := Lib.hid (RO.out.below hb1 RO.out.lt); clear hb1; obtain ⟨q0, q1, q2, q3, q4, q5⟩ := RA1.out; obtain ⟨o0, o1, o2, o3, o4, o5⟩ := RB1.out)
  (try simp only [Exit.inBlock, Exit.then])
  refine bodyPost_ret (v := pairV n a0 a1 a2 a3 a4 0) (by simp [results, Tryd.results26, go_sem, pairV, d0, d1, d2, d3, d4, d5]) rfl ⟨rfl, ((((((t2.out.setCell (by show w.heap.size ≤ w.heap.size + 1 + 1; omega) _).setCell (by show w.heap.size ≤ w.heap.size + 1 + 1; omega) _).setCell (by show w.heap.size ≤ w.heap.size + 1 + 1; omega) _).setCell (by show w.heap.size ≤ w.heap.size + 1 + 1; omega) _).setCell (by show w.heap.size ≤ w.heap.size + 1 + 1; omega) _).setCell (by show w.heap.size ≤ w.heap.size + 1 + 1; omega) _)⟩
end Go.Proofs.YtlineonmpbdkgaaDoor.Graph
namespace Go.Proofs.YtlineonmpbdkgaaDoor.Graph
open Go Go.RowKit Go.Graph Go.Law
open Go.Proofs.YtlineonmpbdkgaaDoor.Col

theorem made_nat (g : Nat → Int) (h : Nat → Nat) (n : Nat) (hg : ∀ i, i < n → i < 5 → g i = (h i : Int)) (h0 : ∀ i, n ≤ i → h i = 0) :
    made g n = [(h 0 : Int), (h 1 : Int), (h 2 : Int), (h 3 : Int), (h 4 : Int)] := by
  have e : made g n = (List.range 5).map fun i => (h i : Int) := by
    unfold made
    apply List.map_congr_left
    intro i hi
    rw [List.mem_range] at hi
    split
    · rename_i hlt; exact hg i hlt hi
    · rename_i hlt; rw [h0 i (by omega)]; rfl
  rw [e]; rfl
theorem or_nat (x y : Nat) (hx : x < 32) (hy : y < 32) : bits BinOp.or IntKind.i64 (x : Int) (y : Int) = ((x ||| y : Nat) : Int) := i64_or_nat x y (by omega) (by omega)
theorem _root_.Go.Graph.WF.lt32 {n : Nat} {r : Nat → Nat} (h : WF n r) (i : Nat) : r i < 32 := by
  by_cases hi : i < n
  · exact Nat.lt_of_lt_of_le (h.low i hi) (pow_le32 h.top)
  · rw [h.out i (by omega)]; omega
theorem getD5 (f : Nat → Int) : ∀ i, i < 5 → [f 0, f 1, f 2, f 3, f 4].getD i 0 = f i
  | 0, _ => rfl
  | 1, _ => rfl
  | 2, _ => rfl
  | 3, _ => rfl
  | 4, _ => rfl
theorem getD5n (f : Nat → Nat) : ∀ i, i < 5 → [f 0, f 1, f 2, f 3, f 4].getD i 0 = f i
  | 0, _ => rfl
  | 1, _ => rfl
  | 2, _ => rfl
  | 3, _ => rfl
  | 4, _ => rfl
theorem prodTo_nat (a : Nat → Nat) (ha : ∀ i, a i < 32) (q : Nat) : ∀ k, k ≤ 5 → prodTo [(a 0 : Int), (a 1 : Int), (a 2 : Int), (a 3 : Int), (a 4 : Int)] q k = (uni a q k : Nat)
  | 0, _ => rfl
  | k + 1, hk => by
    have ih := prodTo_nat a ha q k (by omega)
    have hu : uni a q k < 32 := uni_lt (n := 5) (fun i _ => ha i) q k (by omega)
    unfold prodTo uni
    split
    · rw [ih, getD5 (fun i => (a i : Int)) k (by omega), or_nat _ _ hu (ha k)]
    · exact ih
theorem made_prod {n : Nat} {a b : Nat → Nat} (ha : WF n a) (hb : WF n b) : made (prodRow n (a 0) (a 1) (a 2) (a 3) (a 4) (b 0) (b 1) (b 2) (b 3) (b 4)) n = [((prod n a b 0 : Nat) : Int), ((prod n a b 1 : Nat) : Int), ((prod n a b 2 : Nat) : Int), ((prod n a b 3 : Nat) : Int), ((prod n a b 4 : Nat) : Int)] := by
  refine made_nat _ _ _ (fun i hi h5 => ?_) (ha.prod hb).out
  unfold prodRow
  rw [getD5n b i h5, prodTo_nat a ha.lt32 _ n ha.top]
  unfold prod
  rw [if_pos hi]
theorem made_join {n : Nat} {a b : Nat → Nat} (ha : WF n a) (hb : WF n b) : made (fun i => bits BinOp.or IntKind.i64 ([(a 0 : Int), (a 1 : Int), (a 2 : Int), (a 3 : Int), (a 4 : Int)].getD i 0) ([(b 0 : Int), (b 1 : Int), (b 2 : Int), (b 3 : Int), (b 4 : Int)].getD i 0)) n = [((join a b 0 : Nat) : Int), ((join a b 1 : Nat) : Int), ((join a b 2 : Nat) : Int), ((join a b 3 : Nat) : Int), ((join a b 4 : Nat) : Int)] := by
  refine made_nat _ _ _ (fun i hi h5 => ?_) (ha.join hb).out
  rw [getD5 (fun i => (a i : Int)) i h5, getD5 (fun i => (b i : Int)) i h5, or_nat _ _ (ha.lt32 i) (hb.lt32 i)]
  rfl

theorem wf_rows {n : Nat} {r : Nat → Nat} (h : WF n r) : rows n 0 [(r 0 : Int), (r 1 : Int), (r 2 : Int), (r 3 : Int), (r 4 : Int)] = 0 := by
  have step : ∀ (k : Nat) (xs : List Int), rows n (k + 1) xs = 0 → rows n k ((r k : Int) :: xs) = 0 := by
    intro k xs hx
    by_cases hk : k < n
    · rw [rows_more hk (h.low k hk) (by have := h.self k hk; rw [bit_div] at this; simpa using this)]; exact hx
    · rw [rows_zero (by omega) (by rw [h.out k (by omega)]; rfl)]; exact hx
  exact step 0 _ (step 1 _ (step 2 _ (step 3 _ (step 4 _ rfl))))
theorem check_wf {n : Nat} {r : Nat → Nat} (h : WF n r) (w : World) : Calls Tryd.prog 34 #[.agg #[.int .i64 n, .int .i64 (r 0), .int .i64 (r 1), .int .i64 (r 2), .int .i64 (r 3), .int .i64 (r 4)]] w fun e w' => e = .returned (.int .i64 0) ∧ Below w.heap.size w w' := by
  have := check_any n h.pos h.top (r 0) (r 1) (r 2) (r 3) (r 4) w
  rw [wf_rows h] at this
  exact this
theorem rcheck_wf {n : Nat} {r : Nat → Nat} (h : WF n r) (w : World) : Calls Tryd.prog 36 #[.agg #[.int .i64 n, .int .i64 (r 0), .int .i64 (r 1), .int .i64 (r 2), .int .i64 (r 3), .int .i64 (r 4)]] w fun e w' => e = .returned (.int .i64 0) ∧ Below w.heap.size w w' := by
  have := rcheck_any n h.pos h.top (r 0) (r 1) (r 2) (r 3) (r 4) w
  rw [wf_rows h] at this
  exact this
theorem both_wf {n : Nat} {a b : Nat → Nat} (ha : WF n a) (hb : WF n b) (w : World) : Calls Tryd.prog 56 #[.agg #[.int .i64 n, .int .i64 (a 0), .int .i64 (a 1), .int .i64 (a 2), .int .i64 (a 3), .int .i64 (a 4)], .agg #[.int .i64 n, .int .i64 (b 0), .int .i64 (b 1), .int .i64 (b 2), .int .i64 (b 3), .int .i64 (b 4)]] w fun e w' => e = .returned (.int .i64 0) ∧ Below w.heap.size w w' := by
  have := both60 n (a 0) (a 1) (a 2) (a 3) (a 4) n (b 0) (b 1) (b 2) (b 3) (b 4) 0 0 (check_wf ha) (check_wf hb) w
  simpa [bothV] using this
/-- Products of well-formed graphs. -/
theorem product_wf {n : Nat} {a b : Nat → Nat} (ha : WF n a) (hb : WF n b) (w : World) : Calls Tryd.prog 26 #[.agg #[.int .i64 n, .int .i64 (a 0), .int .i64 (a 1), .int .i64 (a 2), .int .i64 (a 3), .int .i64 (a 4)], .agg #[.int .i64 n, .int .i64 (b 0), .int .i64 (b 1), .int .i64 (b 2), .int .i64 (b 3), .int .i64 (b 4)]] w fun e w' => e = .returned (pairV n (prod n a b 0 : Nat) (prod n a b 1 : Nat) (prod n a b 2 : Nat) (prod n a b 3 : Nat) (prod n a b 4 : Nat) 0) ∧ Below w.heap.size w w' :=
  product_ok n ha.top _ _ _ _ _ _ _ _ _ _ (hb.lt32 0) (hb.lt32 1) (hb.lt32 2) (hb.lt32 3) (hb.lt32 4) _ _ _ _ _ (made_prod ha hb) (both_wf ha hb) w
theorem compose_wf {n : Nat} {a b : Nat → Nat} (ha : WF n a) (hb : WF n b) (w : World) : Calls Tryd.prog 57 #[.agg #[.int .i64 n, .int .i64 (a 0), .int .i64 (a 1), .int .i64 (a 2), .int .i64 (a 3), .int .i64 (a 4)], .agg #[.int .i64 n, .int .i64 (b 0), .int .i64 (b 1), .int .i64 (b 2), .int .i64 (b 3), .int .i64 (b 4)]] w fun e w' => e = .returned (.agg #[.int .i64 n, .int .i64 (prod n a b 0 : Nat), .int .i64 (prod n a b 1 : Nat), .int .i64 (prod n a b 2 : Nat), .int .i64 (prod n a b 3 : Nat), .int .i64 (prod n a b 4 : Nat)]) ∧ Below w.heap.size w w' :=
  compose_ok n ha.top _ _ _ _ _ _ _ _ _ _ (hb.lt32 0) (hb.lt32 1) (hb.lt32 2) (hb.lt32 3) (hb.lt32 4) _ _ _ _ _ (made_prod ha hb) w
end Go.Proofs.YtlineonmpbdkgaaDoor.Graph
