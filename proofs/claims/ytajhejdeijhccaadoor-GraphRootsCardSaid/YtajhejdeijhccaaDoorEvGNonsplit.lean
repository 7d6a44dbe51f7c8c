/-
  Graphs in which any two processes hear a common one.
-/
import Derived.Test.YtajhejdeijhccaaDoorEvGKernel
namespace Go.Proofs.YtajhejdeijhccaaDoor.Graph
open Go Go.RowKit Go.Graph Go.Law
open Go.Proofs.YtajhejdeijhccaaDoor.Col

theorem and_yes (x y : Nat) (hx : x < 32) (hy : y < 32) (h : x &&& y = 0) : (bits BinOp.and IntKind.i64 (x : Int) (y : Int) == 0) = true := by rw [and_nat x y hx hy, h]; rfl
theorem and_no (x y : Nat) (hx : x < 32) (hy : y < 32) (h : x &&& y ≠ 0) : (bits BinOp.and IntKind.i64 (x : Int) (y : Int) == 0) = false := by rw [and_nat x y hx hy]; simpa using h
theorem nsp_no {r : Nat → Nat} {n p q : Nat} (hp : p < n) (hq : q < p) (h : r p &&& r q = 0) : nsp r n = false := by
  unfold nsp; rw [decide_eq_false_iff_not]; exact fun hn => hn p hp q hq h
theorem nsp_yes {r : Nat → Nat} {n : Nat} (h : NoSplit r n) : nsp r n = true := by unfold nsp; simpa using h
theorem ret_bi {a b : Bool} {c : Int} (h : a = b) : Ending.returned (.tuple #[.bool a, .int .i64 c]) = .returned (.tuple #[.bool b, .int .i64 c]) := by rw [h]
set_option maxRecDepth 100000 in
set_option maxHeartbeats 2000000 in
theorem nonsplit37_wf {n : Nat} {a : Nat → Nat} (ha : WF n a) (w : World) : Calls Tryd.prog 37 #[.agg #[.int .i64 n, .int .i64 (a 0), .int .i64 (a 1), .int .i64 (a 2), .int .i64 (a 3), .int .i64 (a 4)]] w fun e w' => e = .returned (.tuple #[.bool (nsp a n), .int .i64 0]) ∧ Below w.heap.size w w' := by
  have h5 := ha.top
  have HB := Lib.hid (check_wf ha)
  have LA := Lib.hid ha.lt32
  clear ha
  have RA := Lib.hid (row_new w n (a 0) (a 1) (a 2) (a 3) (a 4))
  have T0 := Lib.hid (below_alloc w (.cells #[.int .i64 n, .int .i64 (a 0), .int .i64 (a 1), .int .i64 (a 2), .int .i64 (a 3), .int .i64 (a 4)] 24))
  have hsl := arr_slice w.heap.size 1 n h5
  go_enter Tryd.func37, Tryd.ntmps37
  go_wp2_with (go_at_call 16; refine (HB.out _).mono ?_; rintro e w1 ⟨rfl, hb1⟩; have t1 := Lib.hid (T0.out.trans (bel_le hb1 T0.out.size)); have RA1 := Lib.hid (row_below RA.out hb1); have hn1 := RA1.out.1; clear hb1)
  go_loopw [19] (fun i wr => ∃ p m : Nat, p ≤ n ∧ i = .int .i64 p ∧ wr = w1.drewN m ∧ NoSplit a p) (fun i _ => n - (intOf i).toNat)
  case atStart => exact ⟨0, 0, Nat.zero_le _, rfl, rfl, fun p hp => by omega⟩
  case round =>
    obtain ⟨p, m, hp, rfl, rfl, hns⟩ := hrel
    have HN := Lib.hid hns
    clear hns
    by_cases hlt : p < n
    · have hcp := row_wf RA1.out p (by omega)
      have hsp := arr_slice w.heap.size 1 p (by omega)
      go_wp2
      go_loopw [28] (fun j wr => ∃ q m : Nat, q ≤ p ∧ j = .int .i64 q ∧ wr = w1.drewN m ∧ ∀ q', q' < q → a p &&& a q' ≠ 0) (fun j _ => p - (intOf j).toNat)
      case atStart => exact ⟨0, m, Nat.zero_le _, rfl, rfl, fun q hq => by omega⟩
      case round =>
        obtain ⟨q, m, hq, rfl, rfl, hns⟩ := hrel
        have HQ := Lib.hid hns
        clear hns
        by_cases hlt2 : q < p
        · have hcq := row_wf RA1.out q (by omega)
          by_cases hz : a p &&& a q = 0
          · have hy := and_yes _ _ (LA.out p) (LA.out q) hz
            have HZ := Lib.hid (nsp_no hlt hlt2 hz)
            clear hz
            go_wp2
            go_ret2
            exact ⟨ret_bi HZ.out.symm, below_drewN t1.out _⟩
          · have hy := and_no _ _ (LA.out p) (LA.out q) hz
            have HZ := Lib.hid hz
            clear hz
            go_wp2
            exact ⟨⟨q + 1, m, by omega, by go_num, rfl, fun q' hq' => by rcases (by omega : q' < q ∨ q' = q) with h | rfl; exact HQ.out q' h; exact HZ.out⟩, by simp [intOf]; omega⟩
        · have hk' : q = p := by omega
          subst hk'
          go_wp2
          exact ⟨⟨q + 1, m, by omega, by go_num, rfl, fun p' hp' q' hq' => by rcases (by omega : p' < q ∨ p' = q) with h | rfl; exact HN.out p' h q' hq'; exact HQ.out q' hq'⟩, by simp [intOf]; omega⟩
    · have hk' : p = n := by omega
      subst hk'
      have HY := Lib.hid (nsp_yes HN.out)
      go_wp2
      go_ret2
      exact ⟨ret_bi HY.out.symm, below_drewN t1.out _⟩
set_option maxRecDepth 100000 in
set_option maxHeartbeats 2000000 in
theorem nonsplit38_wf {n : Nat} {a : Nat → Nat} (ha : WF n a) (w : World) : Calls Tryd.prog 38 #[.agg #[.int .i64 n, .int .i64 (a 0), .int .i64 (a 1), .int .i64 (a 2), .int .i64 (a 3), .int .i64 (a 4)]] w fun e w' => e = .returned (.tuple #[.bool (nsp a n), .int .i64 0]) ∧ Below w.heap.size w w' := by
  have h5 := ha.top
  have HB := Lib.hid (rcheck_wf ha)
  have LA := Lib.hid ha.lt32
  clear ha
  have RA := Lib.hid (row_new w n (a 0) (a 1) (a 2) (a 3) (a 4))
  have T0 := Lib.hid (below_alloc w (.cells #[.int .i64 n, .int .i64 (a 0), .int .i64 (a 1), .int .i64 (a 2), .int .i64 (a 3), .int .i64 (a 4)] 24))
  have hsl := arr_slice w.heap.size 1 n h5
  go_enter Tryd.func38, Tryd.ntmps38
  go_wp2_with (go_at_call 17; refine (HB.out _).mono ?_; rintro e w1 ⟨rfl, hb1⟩; have t1 := Lib.hid (T0.out.trans (bel_le hb1 T0.out.size)); have RA1 := Lib.hid (row_below RA.out hb1); have hn1 := RA1.out.1; clear hb1)
  go_loopw [5] (fun i wr => ∃ p m : Nat, p ≤ n ∧ i = .int .i64 p ∧ wr = w1.drewN m ∧ NoSplit a p) (fun i _ => n - (intOf i).toNat)
  case atStart => exact ⟨0, 0, Nat.zero_le _, rfl, rfl, fun p hp => by omega⟩
  case round =>
    obtain ⟨p, m, hp, rfl, rfl, hns⟩ := hrel
    have HN := Lib.hid hns
    clear hns
    by_cases hlt : p < n
    · have hcp := row_wf RA1.out p (by omega)
      go_wp2
      go_loopw [6] (fun j wr => ∃ q m : Nat, q ≤ p ∧ j = .int .i64 q ∧ wr = w1.drewN m ∧ ∀ q', q' < q → a p &&& a q' ≠ 0) (fun j _ => p - (intOf j).toNat)
      case atStart => exact ⟨0, m, Nat.zero_le _, rfl, rfl, fun q hq => by omega⟩
      case round =>
        obtain ⟨q, m, hq, rfl, rfl, hns⟩ := hrel
        have HQ := Lib.hid hns
        clear hns
        by_cases hlt2 : q < p
        · have hcq := row_wf RA1.out q (by omega)
          by_cases hz : a p &&& a q = 0
          · have hy := and_yes _ _ (LA.out p) (LA.out q) hz
            have HZ := Lib.hid (nsp_no hlt hlt2 hz)
            clear hz
            go_wp2
            go_quiet (fail)
            go_wp2
            go_ret2
            exact ⟨ret_bi HZ.out.symm, below_drewN (below_drewN t1.out _) _⟩
          · have hy := and_no _ _ (LA.out p) (LA.out q) hz
            have HZ := Lib.hid hz
            clear hz
            go_wp2
            go_quiet (fail)
            go_wp2
            exact ⟨⟨q + 1, m + nq, by omega, by go_num, rfl, fun q' hq' => by rcases (by omega : q' < q ∨ q' = q) with h | rfl; exact HQ.out q' h; exact HZ.out⟩, by simp [intOf]; omega⟩
        · have hk' : q = p := by omega
          subst hk'
          go_wp2
          exact ⟨⟨q + 1, m, by omega, by go_num, rfl, fun p' hp' q' hq' => by rcases (by omega : p' < q ∨ p' = q) with h | rfl; exact HN.out p' h q' hq'; exact HQ.out q' hq'⟩, by simp [intOf]; omega⟩
    · have hk' : p = n := by omega
      subst hk'
      have HY := Lib.hid (nsp_yes HN.out)
      go_wp2
      go_ret2
      exact ⟨ret_bi HY.out.symm, below_drewN t1.out _⟩
end Go.Proofs.YtajhejdeijhccaaDoor.Graph
