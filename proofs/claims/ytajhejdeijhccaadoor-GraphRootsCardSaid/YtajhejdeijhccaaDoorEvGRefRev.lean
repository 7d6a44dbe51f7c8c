/-
  Reversed graphs: the reference's.
-/
import Derived.Test.YtajhejdeijhccaaDoorEvGRefProd
namespace Go.Proofs.YtajhejdeijhccaaDoor.Graph
open Go Go.RowKit Go.Graph Go.Law
open Go.Proofs.YtajhejdeijhccaaDoor.Col

theorem shr_bit (S k : Nat) (hS : S < 32) : bits BinOp.and IntKind.i64 ((S : Int) / 2 ^ k) 1 = ((S / 2 ^ k % 2 : Nat) : Int) := by
  have h : ((S : Int) / 2 ^ k) = ((S / 2 ^ k : Nat) : Int) := by push_cast; rfl
  have hd : S / 2 ^ k ≤ S := Nat.div_le_self _ _
  rw [h, show (1 : Int) = ((1 : Nat) : Int) from rfl, i64_and_nat _ _ (by omega) (by omega), Nat.and_one_is_mod]
theorem rev_step (s x p k : Nat) (hs : s < 32) (hx : x < 32) (hk : k < 5) : bits BinOp.or IntKind.i64 (s : Int) (wrap64 (bits BinOp.and IntKind.i64 ((x : Int) / 2 ^ p) 1 * 2 ^ k)) = ((if x.testBit p then s ||| 2 ^ k else s : Nat) : Int) := by
  rw [shr_bit x p hx]
  by_cases h : x / 2 ^ p % 2 = 1
  · have ht : x.testBit p = true := by rw [bit_div]; simpa using h
    rw [h, ht, if_pos rfl]
    have e : (((1 : Nat) : Int) * 2 ^ k) = (2 : Int) ^ k := by simp
    rw [e, wrap_pow k hk, or_nat _ _ hs (Nat.lt_of_lt_of_le (Nat.pow_lt_pow_right (by omega) hk) (by decide))]
  · have h0 : x / 2 ^ p % 2 = 0 := by omega
    have ht : x.testBit p = false := by rw [bit_div]; simpa using h
    rw [h0, ht]
    have e : (((0 : Nat) : Int) * 2 ^ k) = ((0 : Nat) : Int) := by simp
    rw [e, show wrap64 ((0 : Nat) : Int) = ((0 : Nat) : Int) from (by decide +kernel), or_nat _ _ hs (by omega)]
    simp
set_option maxRecDepth 100000 in
set_option maxHeartbeats 1000000 in
theorem rev_row {n : Nat} {a : Nat → Nat} (ha : WF n a) (p : Nat) (hp : p < 5) (A : Nat) (w : World) (hA : Row6 w A n (a 0) (a 1) (a 2) (a 3) (a 4)) :
    Calls Tryd.prog 64 #[.int .i64 p, .pointer (some ⟨A, 0, none⟩)] w fun e w' => e = .returned (.int .i64 (setOf (fun q => (a q).testBit p) n : Nat)) ∧ Below w.heap.size w w' := by
  have h5 := ha.top
  have LA := Lib.hid ha.lt32
  have HA := Lib.hid hA
  have hna := hA.1
  clear hA ha
  go_enter Tryd.func64, Tryd.ntmps64
  go_wp2
  go_loopw [4, 8] (fun r i wr => ∃ k m : Nat, k ≤ n ∧ i = .int .i64 k ∧ r = .int .i64 (setOf (fun q => (a q).testBit p) k : Nat) ∧ wr = w.drewN m) (fun _ i _ => n - (intOf i).toNat)
  case atStart => exact ⟨0, 0, Nat.zero_le _, rfl, rfl, rfl⟩
  case round =>
    obtain ⟨k, m, hk, rfl, rfl, rfl⟩ := hrel
    by_cases hlt : k < n
    · have hc := row_wf HA.out k (by omega)
      have hx := setOf_lt (fun q => (a q).testBit p) 5 k (by omega)
      have hl := LA.out k
      have HST := Lib.hid (rev_step (setOf (fun q => (a q).testBit p) k) (a k) p k (by omega) hl (by omega))
      have HE := Lib.hid (show setOf (fun q => (a q).testBit p) (k + 1) = if (a k).testBit p then setOf (fun q => (a q).testBit p) k ||| 2 ^ k else setOf (fun q => (a q).testBit p) k from rfl)
      generalize setOf (fun q => (a q).testBit p) k = s at *
      generalize a k = x at *
      go_wp2
      exact ⟨⟨k + 1, m, by omega, by go_num, by rw [HST.out, HE.out], rfl⟩, by simp [intOf]; omega⟩
    · have hk' : k = n := by omega
      subst hk'
      go_wp2
      go_ret
      exact ⟨rfl, below_drewN (Below.refl _ _) _⟩
theorem made_rev {n : Nat} {a : Nat → Nat} (ha : WF n a) : made (fun p => ((setOf (fun q => (a q).testBit p) n : Nat) : Int)) n = [((rev n a 0 : Nat) : Int), ((rev n a 1 : Nat) : Int), ((rev n a 2 : Nat) : Int), ((rev n a 3 : Nat) : Int), ((rev n a 4 : Nat) : Int)] := by
  refine made_nat _ _ _ (fun i hi h5 => ?_) ha.rev.out
  unfold rev
  rw [if_pos hi]
set_option maxRecDepth 100000 in
set_option maxHeartbeats 1000000 in
theorem reverse_bad (n r0 r1 r2 r3 r4 c : Int) (hc : c ≠ 0) (hb : ∀ w : World, Calls Tryd.prog 16 #[.agg #[.int .i64 n, .int .i64 r0, .int .i64 r1, .int .i64 r2, .int .i64 r3, .int .i64 r4]] w fun e w' => e = .returned (.int .i64 c) ∧ Below w.heap.size w w') (w : World) :
    Calls Tryd.prog 25 #[.agg #[.int .i64 n, .int .i64 r0, .int .i64 r1, .int .i64 r2, .int .i64 r3, .int .i64 r4]] w fun e w' => e = .returned (pairV 0 0 0 0 0 0 c) ∧ Below w.heap.size w w' := by
  have e1 : (c != 0) = true := by simpa using hc
  clear hc
  have HB := Lib.hid hb
  clear hb
  have T0 := Lib.hid ((below_alloc w (.cells #[.int .i64 n, .int .i64 r0, .int .i64 r1, .int .i64 r2, .int .i64 r3, .int .i64 r4] 24)).alloc (by rw [size_alloc]; omega) (.cells #[.int .i64 0, .int .i64 0, .int .i64 0, .int .i64 0, .int .i64 0, .int .i64 0] 24))
  have RO := Lib.hid (own_new (w.alloc (.cells #[.int .i64 n, .int .i64 r0, .int .i64 r1, .int .i64 r2, .int .i64 r3, .int .i64 r4] 24)) [.int .i64 0, .int .i64 0, .int .i64 0, .int .i64 0, .int .i64 0, .int .i64 0] 24)
  rw [size_alloc] at RO
  go_enter Tryd.func25, Tryd.ntmps25
  go_wp2_with (go_at_call 16; refine (HB.out _).mono ?_; rintro e w1 ⟨rfl, hb1⟩; have t1 := Lib.hid (T0.out.trans (bel_le hb1 T0.out.size)); have O := Lib.hid (RO.out.below hb1 RO.out.lt); clear hb1; have d0 := O.out.cell (j := 0) (v := .int .i64 0) rfl; have d1 := O.out.cell (j := 1) (v := .int .i64 0) rfl; have d2 := O.out.cell (j := 2) (v := .int .i64 0) rfl; have d3 := O.out.cell (j := 3) (v := .int .i64 0) rfl; have d4 := O.out.cell (j := 4) (v := .int .i64 0) rfl; have d5 := O.out.cell (j := 5) (v := .int .i64 0) rfl; have z0 := O.out.free 0; have z1 := O.out.free 1; have z2 := O.out.free 2; have z3 := O.out.free 3; have z4 := O.out.free 4; have z5 := O.out.free 5)
  (try simp only [Exit.inBlock, Exit.then])
  refine bodyPost_ret (v := pairV 0 0 0 0 0 0 c) (by simp [results, Tryd.results25, go_sem, pairV, d0, d1, d2, d3, d4, d5]) rfl ⟨rfl, ((((((t1.out.setCell (by show w.heap.size ≤ w.heap.size + 1; omega) _).setCell (by show w.heap.size ≤ w.heap.size + 1; omega) _).setCell (by show w.heap.size ≤ w.heap.size + 1; omega) _).setCell (by show w.heap.size ≤ w.heap.size + 1; omega) _).setCell (by show w.heap.size ≤ w.heap.size + 1; omega) _).setCell (by show w.heap.size ≤ w.heap.size + 1; omega) _)⟩
set_option maxRecDepth 100000 in
set_option maxHeartbeats 1000000 in
theorem reverse_wf {n : Nat} {a : Nat → Nat} (ha : WF n a) (w : World) :
    Calls Tryd.prog 25 #[.agg #[.int .i64 n, .int .i64 (a 0), .int .i64 (a 1), .int .i64 (a 2), .int .i64 (a 3), .int .i64 (a 4)]] w fun e w' => e = .returned (pairV n (rev n a 0 : Nat) (rev n a 1 : Nat) (rev n a 2 : Nat) (rev n a 3 : Nat) (rev n a 4 : Nat) 0) ∧ Below w.heap.size w w' := by
  have HB := Lib.hid (check_wf ha)
  have HM := Lib.hid (fun w1 => build64' n ha.top _ _ _ _ _ _ (made_rev ha) ⟨w.heap.size, 0, none⟩ w1)
  have HRR := Lib.hid (fun i (hi : i < 5) w' hA => rev_row ha i hi w.heap.size w' hA)
  have h5 := ha.top
  clear ha
  generalize rev n a 0 = p0 at *
  generalize rev n a 1 = p1 at *
  generalize rev n a 2 = p2 at *
  generalize rev n a 3 = p3 at *
  generalize rev n a 4 = p4 at *
  have T0 := Lib.hid ((below_alloc w (.cells #[.int .i64 n, .int .i64 (a 0), .int .i64 (a 1), .int .i64 (a 2), .int .i64 (a 3), .int .i64 (a 4)] 24)).alloc (by rw [size_alloc]; omega) (.cells #[.int .i64 0, .int .i64 0, .int .i64 0, .int .i64 0, .int .i64 0, .int .i64 0] 24))
  have RO := Lib.hid (own_new (w.alloc (.cells #[.int .i64 n, .int .i64 (a 0), .int .i64 (a 1), .int .i64 (a 2), .int .i64 (a 3), .int .i64 (a 4)] 24)) [.int .i64 0, .int .i64 0, .int .i64 0, .int .i64 0, .int .i64 0, .int .i64 0] 24)
  rw [size_alloc] at RO
  have RA := Lib.hid (row_alloc (row_new w n (a 0) (a 1) (a 2) (a 3) (a 4)) (.cells #[.int .i64 0, .int .i64 0, .int .i64 0, .int .i64 0, .int .i64 0, .int .i64 0] 24))
  go_enter Tryd.func25, Tryd.ntmps25
  go_wp2_with first
    | (go_at_call 53; refine (HM.out w1 (fun i hi w' hw => HRR.out i (by omega) w' (row_below RA1.out hw))).mono ?_; rintro e w2 ⟨rfl, hb2⟩; have t2 := Lib.hid (t1.out.trans (bel_le hb2 t1.out.size)); have O := Lib.hid (RO1.out.below hb2 RO1.out.lt); clear hb2; have d0 := O.out.cell (j := 0) (v := .int .i64 0) rfl; have d1 := O.out.cell (j := 1) (v := .int .i64 0) rfl; have d2 := O.out.cell (j := 2) (v := .int .i64 0) rfl; have d3 := O.out.cell (j := 3) (v := .int .i64 0) rfl; have d4 := O.out.cell (j := 4) (v := .int .i64 0) rfl; have d5 := O.out.cell (j := 5) (v := .int .i64 0) rfl; have z0 := O.out.free 0; have z1 := O.out.free 1; have z2 := O.out.free 2; have z3 := O.out.free 3; have z4 := O.out.free 4; have z5 := O.out.free 5)
    | (go_at_call 16; refine (HB.out _).mono ?_; rintro e w1 ⟨rfl, hb1⟩; have t1 := Lib.hid (T0.out.trans (bel_le hb1 T0.out.size)); have RA1 := Lib.hid (row_below RA.out hb1); have RO1 := Lib.hid (RO.out.below hb1 RO.out.lt); clear hb1; obtain ⟨q0, q1, q2, q3, q4, q5⟩ := RA1.out)
  (try simp only [Exit.inBlock, Exit.then])
  refine bodyPost_ret (v := pairV n p0 p1 p2 p3 p4 0) (by simp [results, Tryd.results25, go_sem, pairV, d0, d1, d2, d3, d4, d5]) rfl ⟨rfl, ((((((t2.out.setCell (by show w.heap.size ≤ w.heap.size + 1; omega) _).setCell (by show w.heap.size ≤ w.heap.size + 1; omega) _).setCell (by show w.heap.size ≤ w.heap.size + 1; omega) _).setCell (by show w.heap.size ≤ w.heap.size + 1; omega) _).setCell (by show w.heap.size ≤ w.heap.size + 1; omega) _).setCell (by show w.heap.size ≤ w.heap.size + 1; omega) _)⟩
end Go.Proofs.YtajhejdeijhccaaDoor.Graph
namespace Go.Proofs.YtajhejdeijhccaaDoor.Graph
open Go Go.RowKit Go.Graph Go.Law
open Go.Proofs.YtajhejdeijhccaaDoor.Col

set_option maxRecDepth 100000 in
set_option maxHeartbeats 1000000 in
theorem rreverse_bad (n r0 r1 r2 r3 r4 c : Int) (hc : c ≠ 0) (hb : ∀ w : World, Calls Tryd.prog 17 #[.agg #[.int .i64 n, .int .i64 r0, .int .i64 r1, .int .i64 r2, .int .i64 r3, .int .i64 r4]] w fun e w' => e = .returned (.int .i64 c) ∧ Below w.heap.size w w') (w : World) :
    Calls Tryd.prog 26 #[.agg #[.int .i64 n, .int .i64 r0, .int .i64 r1, .int .i64 r2, .int .i64 r3, .int .i64 r4]] w fun e w' => e = .returned (pairV 0 0 0 0 0 0 c) ∧ Below w.heap.size w w' := by
  have e1 : (c != 0) = true := by simpa using hc
  clear hc
  have HB := Lib.hid hb
  clear hb
  have T0 := Lib.hid ((below_alloc w (.cells #[.int .i64 n, .int .i64 r0, .int .i64 r1, .int .i64 r2, .int .i64 r3, .int .i64 r4] 24)).alloc (by rw [size_alloc]; omega) (.cells #[.int .i64 0, .int .i64 0, .int .i64 0, .int .i64 0, .int .i64 0, .int .i64 0] 24))
  have RO := Lib.hid (own_new (w.alloc (.cells #[.int .i64 n, .int .i64 r0, .int .i64 r1, .int .i64 r2, .int .i64 r3, .int .i64 r4] 24)) [.int .i64 0, .int .i64 0, .int .i64 0, .int .i64 0, .int .i64 0, .int .i64 0] 24)
  rw [size_alloc] at RO
  go_enter Tryd.func26, Tryd.ntmps26
  go_wp2_with (go_at_call 17; refine (HB.out _).mono ?_; rintro e w1 ⟨rfl, hb1⟩; have t1 := Lib.hid (T0.out.trans (bel_le hb1 T0.out.size)); have O := Lib.hid (RO.out.below hb1 RO.out.lt); clear hb1; have d0 := O.out.cell (j := 0) (v := .int .i64 0) rfl; have d1 := O.out.cell (j := 1) (v := .int .i64 0) rfl; have d2 := O.out.cell (j := 2) (v := .int .i64 0) rfl; have d3 := O.out.cell (j := 3) (v := .int .i64 0) rfl; have d4 := O.out.cell (j := 4) (v := .int .i64 0) rfl; have d5 := O.out.cell (j := 5) (v := .int .i64 0) rfl; have z0 := O.out.free 0; have z1 := O.out.free 1; have z2 := O.out.free 2; have z3 := O.out.free 3; have z4 := O.out.free 4; have z5 := O.out.free 5)
  (try simp only [Exit.inBlock, Exit.then])
  refine bodyPost_ret (v := pairV 0 0 0 0 0 0 c) (by simp [results, Tryd.results26, go_sem, pairV, d0, d1, d2, d3, d4, d5]) rfl ⟨rfl, ((((((t1.out.setCell (by show w.heap.size ≤ w.heap.size + 1; omega) _).setCell (by show w.heap.size ≤ w.heap.size + 1; omega) _).setCell (by show w.heap.size ≤ w.heap.size + 1; omega) _).setCell (by show w.heap.size ≤ w.heap.size + 1; omega) _).setCell (by show w.heap.size ≤ w.heap.size + 1; omega) _).setCell (by show w.heap.size ≤ w.heap.size + 1; omega) _)⟩
set_option maxRecDepth 100000 in
set_option maxHeartbeats 2000000 in
theorem rreverse_wf {n : Nat} {a : Nat → Nat} (ha : WF n a) (w : World) : Calls Tryd.prog 26 #[.agg #[.int .i64 n, .int .i64 (a 0), .int .i64 (a 1), .int .i64 (a 2), .int .i64 (a 3), .int .i64 (a 4)]] w fun e w' => e = .returned (pairV n (rev n a 0 : Nat) (rev n a 1 : Nat) (rev n a 2 : Nat) (rev n a 3 : Nat) (rev n a 4 : Nat) 0) ∧ Below w.heap.size w w' := by
  have h5 := ha.top
  have HB := Lib.hid (rcheck_wf ha)
  have HM := Lib.hid (made_rev ha)
  generalize hp0 : rev n a 0 = p0 at *
  generalize hp1 : rev n a 1 = p1 at *
  generalize hp2 : rev n a 2 = p2 at *
  generalize hp3 : rev n a 3 = p3 at *
  generalize hp4 : rev n a 4 = p4 at *
  clear hp0 hp1 hp2 hp3 hp4
  have LA := Lib.hid ha.lt32
  clear ha
  have T0 := Lib.hid ((below_alloc w (.cells #[.int .i64 n, .int .i64 (a 0), .int .i64 (a 1), .int .i64 (a 2), .int .i64 (a 3), .int .i64 (a 4)] 24)).alloc (by rw [size_alloc]; omega) (.cells #[.int .i64 0, .int .i64 0, .int .i64 0, .int .i64 0, .int .i64 0, .int .i64 0] 24))
  have RA := Lib.hid (row_alloc (row_new w n (a 0) (a 1) (a 2) (a 3) (a 4)) (.cells #[.int .i64 0, .int .i64 0, .int .i64 0, .int .i64 0, .int .i64 0, .int .i64 0] 24))
  have RO := Lib.hid (own_new (w.alloc (.cells #[.int .i64 n, .int .i64 (a 0), .int .i64 (a 1), .int .i64 (a 2), .int .i64 (a 3), .int .i64 (a 4)] 24)) [.int .i64 0, .int .i64 0, .int .i64 0, .int .i64 0, .int .i64 0, .int .i64 0] 24)
  rw [size_alloc] at RO
  go_enter Tryd.func26, Tryd.ntmps26
  go_wp2_with (go_at_call 17; refine (HB.out _).mono ?_; rintro e w1 ⟨rfl, hb1⟩; have t1 := Lib.hid (T0.out.trans (bel_le hb1 T0.out.size)); have s1 : w.heap.size + 1 < w1.heap.size := (by have := hb1.size; rw [size_alloc, size_alloc] at this; omega); have RA1 := Lib.hid (row_alloc (row_below RA.out hb1) (.cells #[.int .i64 n, .int .i64 0, .int .i64 0, .int .i64 0, .int .i64 0, .int .i64 0] 24)); have RO1 := Lib.hid ((RO.out.below hb1 RO.out.lt).alloc (.cells #[.int .i64 n, .int .i64 0, .int .i64 0, .int .i64 0, .int .i64 0, .int .i64 0] 24)); have hn1 := (row_below RA.out hb1).1; have RG := Lib.hid (own_new w1 [.int .i64 n, .int .i64 0, .int .i64 0, .int .i64 0, .int .i64 0, .int .i64 0] 24); clear hb1)
  have T1 := Lib.hid (t1.out.alloc t1.out.size (.cells #[.int .i64 n, .int .i64 0, .int .i64 0, .int .i64 0, .int .i64 0, .int .i64 0] 24))
  have s0 : w.heap.size < w1.heap.size := by omega
  clear t1
  have hn0 := RA1.out.1
  generalize World.alloc w1 _ = W4 at *
  generalize hG : w1.heap.size = G at *
  clear hG
  go_loopw [6] (fun i wr => ∃ p : Nat, p ≤ n ∧ i = .int .i64 p ∧ Below G W4 wr ∧ Own wr G 24 (.int .i64 n :: (made (fun p => ((setOf (fun q => (a q).testBit p) n : Nat) : Int)) p).map (Value.int .i64))) (fun i _ => n - (intOf i).toNat)
  case atStart => exact ⟨0, Nat.zero_le _, rfl, Below.refl _ _, RG.out⟩
  case round =>
    obtain ⟨p, hp, rfl, hbl, hown⟩ := hrel
    have HBL := Lib.hid hbl
    have HOWN := Lib.hid hown
    clear hbl hown hn1
    have hna := (row_bel RA1.out HBL.out (by omega)).1
    clear hn0
    by_cases hlt : p < n
    · go_wp2
      go_loopw [7] (fun j wr => ∃ m : Nat, m ≤ n ∧ j = .int .i64 m ∧ Below G W4 wr ∧ Own wr G 24 (.int .i64 n :: ((made (fun p => ((setOf (fun q => (a q).testBit p) n : Nat) : Int)) p).set p ((setOf (fun q => (a q).testBit p) m : Nat) : Int)).map (Value.int .i64))) (fun j _ => n - (intOf j).toNat)
      case atStart => exact ⟨0, Nat.zero_le _, rfl, HBL.out, by have := made_set0 (fun p => ((setOf (fun q => (a q).testBit p) n : Nat) : Int)) p (by omega); show Own _ _ _ (_ :: ((made _ p).set p 0).map _); rw [this]; exact HOWN.out⟩
      case round =>
        obtain ⟨m, hm, rfl, hbl, hown⟩ := hrel
        have HBL := Lib.hid hbl
        have HOWN := Lib.hid hown
        clear hbl hown hna
        have hna := (row_bel RA1.out HBL.out (by omega)).1
        by_cases hlt2 : m < n
        · have hca := row_wf (row_bel RA1.out HBL.out (by omega)) m (by omega)
          have hcg := HOWN.out.cell (rowp_cell n (fun p => ((setOf (fun q => (a q).testBit p) n : Nat) : Int)) p ((setOf (fun q => (a q).testBit p) m : Nat) : Int) (by omega))
          have hfr := HOWN.out.free (1 + p)
          have hy := LA.out m
          have hx : setOf (fun q => (a q).testBit p) m < 32 := setOf_lt _ 5 m (by omega)
          have HU := Lib.hid (show setOf (fun q => (a q).testBit p) (m + 1) = if (a m).testBit p then setOf (fun q => (a q).testBit p) m ||| 2 ^ m else setOf (fun q => (a q).testBit p) m from rfl)
          have HBD := Lib.hid (bit_div (a m) p)
          generalize setOf (fun q => (a q).testBit p) m = x at *
          by_cases hbit : a m / 2 ^ p % 2 = 1
          · have HX := Lib.hid (show (a m / 2 ^ p % 2 == 1) = true by simp [hbit])
            have HBIT := Lib.hid hbit
            have HOR := Lib.hid (show bits BinOp.or IntKind.i64 (x : Int) (wrap64 (2 ^ m)) = ((x ||| 2 ^ m : Nat) : Int) by rw [wrap_pow m (by omega), or_nat _ _ hx (Nat.lt_of_lt_of_le (Nat.pow_lt_pow_right (by omega) (show m < 5 by omega)) (by decide))])
            clear hbit
            go_wp2_with (go_at_call 58; refine (has_any (a m) p hy (by omega) _).mono ?_; rintro e w' ⟨rfl, rfl⟩; rw [HX.out])
            go_region
            go_wp2
            exact ⟨⟨m + 1, by omega, by go_num, (HBL.out.setCell (Nat.le_refl _) _).drew, by rw [HU.out, HBD.out, HBIT.out, if_pos (by simp), ← HOR.out, ← rowp_set n _ p (x : Int)]; exact (HOWN.out.set (1 + p) _).drew⟩, by simp [intOf]; omega⟩
          · have HX := Lib.hid (show (a m / 2 ^ p % 2 == 1) = false by simp [hbit])
            have HBIT := Lib.hid hbit
            clear hbit
            go_wp2_with (go_at_call 58; refine (has_any (a m) p hy (by omega) _).mono ?_; rintro e w' ⟨rfl, rfl⟩; rw [HX.out])
            exact ⟨⟨m + 1, by omega, by go_num, HBL.out, by rw [HU.out, HBD.out, if_neg (by simpa using HBIT.out)]; exact HOWN.out⟩, by simp [intOf]; omega⟩
        · have hk' : m = n := by omega
          subst hk'
          have HS := Lib.hid (made_set (fun p => ((setOf (fun q => (a q).testBit p) m : Nat) : Int)) p (by omega))
          go_wp2
          exact ⟨⟨p + 1, by omega, by go_num, HBL.out, by rw [← HS.out]; exact HOWN.out⟩, by simp [intOf]; omega⟩
    · have hk' : p = n := by omega
      subst hk'
      rw [HM.out] at HOWN
      have c0 := HOWN.out.cell (j := 0) (v := .int .i64 p) rfl
      have c1 := HOWN.out.cell (j := 1) (v := .int .i64 p0) rfl
      have c2 := HOWN.out.cell (j := 2) (v := .int .i64 p1) rfl
      have c3 := HOWN.out.cell (j := 3) (v := .int .i64 p2) rfl
      have c4 := HOWN.out.cell (j := 4) (v := .int .i64 p3) rfl
      have c5 := HOWN.out.cell (j := 5) (v := .int .i64 p4) rfl
      have HRES := Lib.hid (RO1.out.below HBL.out (by omega))
      have d0 := HRES.out.cell (j := 0) (v := .int .i64 0) rfl
      have d1 := HRES.out.cell (j := 1) (v := .int .i64 0) rfl
      have d2 := HRES.out.cell (j := 2) (v := .int .i64 0) rfl
      have d3 := HRES.out.cell (j := 3) (v := .int .i64 0) rfl
      have d4 := HRES.out.cell (j := 4) (v := .int .i64 0) rfl
      have d5 := HRES.out.cell (j := 5) (v := .int .i64 0) rfl
      have z0 := HRES.out.free 0
      have z1 := HRES.out.free 1
      have z2 := HRES.out.free 2
      have z3 := HRES.out.free 3
      have z4 := HRES.out.free 4
      have z5 := HRES.out.free 5
      go_wp2
      (try simp only [Exit.inBlock, Exit.then])
      refine bodyPost_ret (v := pairV p p0 p1 p2 p3 p4 0) (by simp [results, Tryd.results26, go_sem, pairV, d0, d1, d2, d3, d4, d5]) rfl ⟨rfl, (((((((T1.out.trans (bel_le HBL.out (by omega))).setCell (by show w.heap.size ≤ w.heap.size + 1; omega) _).setCell (by show w.heap.size ≤ w.heap.size + 1; omega) _).setCell (by show w.heap.size ≤ w.heap.size + 1; omega) _).setCell (by show w.heap.size ≤ w.heap.size + 1; omega) _).setCell (by show w.heap.size ≤ w.heap.size + 1; omega) _).setCell (by show w.heap.size ≤ w.heap.size + 1; omega) _)⟩
end Go.Proofs.YtajhejdeijhccaaDoor.Graph
