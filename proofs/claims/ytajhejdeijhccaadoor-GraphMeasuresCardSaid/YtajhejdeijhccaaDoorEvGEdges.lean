/-
  Numbers of edges of graphs.
-/
import Derived.Test.YtajhejdeijhccaaDoorEvGAny
import Derived.Test.YtajhejdeijhccaaDoorEvGPlain
namespace Go.Proofs.YtajhejdeijhccaaDoor.Graph
open Go Go.RowKit Go.Graph Go.Law
open Go.Proofs.YtajhejdeijhccaaDoor.Col

noncomputable def runU (f : FuncId) (n : Int) : Option Value := Go.Ev.outV ((Go.Ev.F.evRec (Go.Proofs.YtajhejdeijhccaaDoor.Ev.fast fun _ => none) 50).call f [.int .u64 n] (Go.Ev.tabHp []))
theorem closedU {f : FuncId} {n : Int} {u : Value} (e : runU f n = some u) (w : World) :
    Calls Tryd.prog f #[.int .u64 n] w fun e w' => e = .returned u ∧ Below w.heap.size w w' :=
  Go.Ev.call_plain (Go.Proofs.YtajhejdeijhccaaDoor.Ev.cfg_ok (pr := fun _ => none) fun _ _ _ f g h => (by cases h)) Go.Proofs.YtajhejdeijhccaaDoor.Ev.glob_ok (args := [.int .u64 n]) (args' := [.int .u64 n]) (.cons (.int _ _) .nil) (by rw [← Go.Proofs.YtajhejdeijhccaaDoor.Ev.fast_eq]; exact e) (Go.Proofs.YtajhejdeijhccaaDoor.Ev.held w)
theorem ones0 : runU 69 0 = some (.int .i64 0) := by kernel_rfl
theorem ones1 : runU 69 1 = some (.int .i64 1) := by kernel_rfl
theorem ones2 : runU 69 2 = some (.int .i64 1) := by kernel_rfl
theorem ones3 : runU 69 3 = some (.int .i64 2) := by kernel_rfl
theorem ones4 : runU 69 4 = some (.int .i64 1) := by kernel_rfl
theorem ones5 : runU 69 5 = some (.int .i64 2) := by kernel_rfl
theorem ones6 : runU 69 6 = some (.int .i64 2) := by kernel_rfl
theorem ones7 : runU 69 7 = some (.int .i64 3) := by kernel_rfl
theorem ones8 : runU 69 8 = some (.int .i64 1) := by kernel_rfl
theorem ones9 : runU 69 9 = some (.int .i64 2) := by kernel_rfl
theorem ones10 : runU 69 10 = some (.int .i64 2) := by kernel_rfl
theorem ones11 : runU 69 11 = some (.int .i64 3) := by kernel_rfl
theorem ones12 : runU 69 12 = some (.int .i64 2) := by kernel_rfl
theorem ones13 : runU 69 13 = some (.int .i64 3) := by kernel_rfl
theorem ones14 : runU 69 14 = some (.int .i64 3) := by kernel_rfl
theorem ones15 : runU 69 15 = some (.int .i64 4) := by kernel_rfl
theorem ones16 : runU 69 16 = some (.int .i64 1) := by kernel_rfl
theorem ones17 : runU 69 17 = some (.int .i64 2) := by kernel_rfl
theorem ones18 : runU 69 18 = some (.int .i64 2) := by kernel_rfl
theorem ones19 : runU 69 19 = some (.int .i64 3) := by kernel_rfl
theorem ones20 : runU 69 20 = some (.int .i64 2) := by kernel_rfl
theorem ones21 : runU 69 21 = some (.int .i64 3) := by kernel_rfl
theorem ones22 : runU 69 22 = some (.int .i64 3) := by kernel_rfl
theorem ones23 : runU 69 23 = some (.int .i64 4) := by kernel_rfl
theorem ones24 : runU 69 24 = some (.int .i64 2) := by kernel_rfl
theorem ones25 : runU 69 25 = some (.int .i64 3) := by kernel_rfl
theorem ones26 : runU 69 26 = some (.int .i64 3) := by kernel_rfl
theorem ones27 : runU 69 27 = some (.int .i64 4) := by kernel_rfl
theorem ones28 : runU 69 28 = some (.int .i64 3) := by kernel_rfl
theorem ones29 : runU 69 29 = some (.int .i64 4) := by kernel_rfl
theorem ones30 : runU 69 30 = some (.int .i64 4) := by kernel_rfl
theorem ones31 : runU 69 31 = some (.int .i64 5) := by kernel_rfl
theorem ones (x : Nat) (hx : x < 32) (w : World) : Calls Tryd.prog 69 #[.int .u64 x] w fun e w' => e = .returned (.int .i64 (pc x : Nat)) ∧ Below w.heap.size w w' :=
  match x, hx with
  | 0, _ => closedU ones0 w
  | 1, _ => closedU ones1 w
  | 2, _ => closedU ones2 w
  | 3, _ => closedU ones3 w
  | 4, _ => closedU ones4 w
  | 5, _ => closedU ones5 w
  | 6, _ => closedU ones6 w
  | 7, _ => closedU ones7 w
  | 8, _ => closedU ones8 w
  | 9, _ => closedU ones9 w
  | 10, _ => closedU ones10 w
  | 11, _ => closedU ones11 w
  | 12, _ => closedU ones12 w
  | 13, _ => closedU ones13 w
  | 14, _ => closedU ones14 w
  | 15, _ => closedU ones15 w
  | 16, _ => closedU ones16 w
  | 17, _ => closedU ones17 w
  | 18, _ => closedU ones18 w
  | 19, _ => closedU ones19 w
  | 20, _ => closedU ones20 w
  | 21, _ => closedU ones21 w
  | 22, _ => closedU ones22 w
  | 23, _ => closedU ones23 w
  | 24, _ => closedU ones24 w
  | 25, _ => closedU ones25 w
  | 26, _ => closedU ones26 w
  | 27, _ => closedU ones27 w
  | 28, _ => closedU ones28 w
  | 29, _ => closedU ones29 w
  | 30, _ => closedU ones30 w
  | 31, _ => closedU ones31 w
  | x + 32, h => absurd h (by omega)
set_option maxRecDepth 100000 in
set_option maxHeartbeats 1000000 in
theorem edges_wf {n : Nat} {a : Nat → Nat} (ha : WF n a) (w : World) : Calls Tryd.prog 31 #[.agg #[.int .i64 n, .int .i64 (a 0), .int .i64 (a 1), .int .i64 (a 2), .int .i64 (a 3), .int .i64 (a 4)]] w fun e w' => e = .returned (.tuple #[.int .i64 (sumCnt n a n : Nat), .int .i64 0]) ∧ Below w.heap.size w w' := by
  have h5 := ha.top
  have HB := Lib.hid (check_wf ha)
  have LA := Lib.hid ha.lt32
  have HS := Lib.hid (show -(n : Int) + (sumPc a 5 : Nat) = (sumCnt n a n : Nat) by rw [sum_all ha]; push_cast; omega)
  clear ha
  have HR := Lib.hid (row_at (a 0) (a 1) (a 2) (a 3) (a 4))
  have RA := Lib.hid (row_new w n (a 0) (a 1) (a 2) (a 3) (a 4))
  have T0 := Lib.hid (below_alloc w (.cells #[.int .i64 n, .int .i64 (a 0), .int .i64 (a 1), .int .i64 (a 2), .int .i64 (a 3), .int .i64 (a 4)] 24))
  go_enter Tryd.func31, Tryd.ntmps31
  go_wp2_with (go_at_call 16; refine (HB.out _).mono ?_; rintro e w1 ⟨rfl, hb1⟩; have t1 := Lib.hid (T0.out.trans (bel_le hb1 T0.out.size)); obtain ⟨q0, q1, q2, q3, q4, q5⟩ := row_below RA.out hb1; clear hb1)
  clear q0 q1 q2 q3 q4 q5
  go_loopw [5, 18] (fun s i wr => ∃ k : Nat, k ≤ 5 ∧ i = .int .i64 k ∧ s = .int .i64 (-(n : Int) + (sumPc a k : Nat)) ∧ Below w.heap.size w wr) (fun _ i _ => 5 - (intOf i).toNat)
  case atStart => exact ⟨0, by omega, rfl, by simp [sumPc], t1.out⟩
  case round =>
    obtain ⟨k, hk, rfl, rfl, hbl⟩ := hrel
    have HBL := Lib.hid hbl
    clear hbl
    by_cases hlt : k < 5
    · have hix := HR.out k hlt
      rw [getD5 (fun i => (a i : Int)) k hlt] at hix
      have hl := LA.out k
      have HO := Lib.hid (ones (a k) hl)
      have HE := Lib.hid (show sumPc a (k + 1) = sumPc a k + pc (a k) from rfl)
      have b1 := sumPc_le a k
      have b2 := pc_le (a k)
      generalize sumPc a k = s at *
      generalize pc (a k) = c at *
      generalize a k = x at *
      go_wp2_with (go_at_call 69; refine (HO.out _).mono ?_; rintro e w2 ⟨rfl, hb2⟩; have T2 := Lib.hid (HBL.out.trans (bel_le hb2 HBL.out.size)); clear hb2)
      exact ⟨⟨k + 1, by omega, by go_num, by rw [HE.out]; go_num, T2.out⟩, by simp [intOf]; omega⟩
    · have hk' : k = 5 := by omega
      subst hk'
      go_wp2
      go_ret2
      exact ⟨by rw [HS.out]; rfl, HBL.out⟩
set_option maxRecDepth 100000 in
set_option maxHeartbeats 2000000 in
theorem redges_wf {n : Nat} {a : Nat → Nat} (ha : WF n a) (w : World) : Calls Tryd.prog 32 #[.agg #[.int .i64 n, .int .i64 (a 0), .int .i64 (a 1), .int .i64 (a 2), .int .i64 (a 3), .int .i64 (a 4)]] w fun e w' => e = .returned (.tuple #[.int .i64 (sumCnt n a n : Nat), .int .i64 0]) ∧ Below w.heap.size w w' := by
  have h5 := ha.top
  have HB := Lib.hid (rcheck_wf ha)
  have LA := Lib.hid ha.lt32
  clear ha
  have RA := Lib.hid (row_new w n (a 0) (a 1) (a 2) (a 3) (a 4))
  have T0 := Lib.hid (below_alloc w (.cells #[.int .i64 n, .int .i64 (a 0), .int .i64 (a 1), .int .i64 (a 2), .int .i64 (a 3), .int .i64 (a 4)] 24))
  go_enter Tryd.func32, Tryd.ntmps32
  go_wp2_with (go_at_call 17; refine (HB.out _).mono ?_; rintro e w1 ⟨rfl, hb1⟩; have t1 := Lib.hid (T0.out.trans (bel_le hb1 T0.out.size)); have RA1 := Lib.hid (row_below RA.out hb1); have hn1 := RA1.out.1; clear hb1)
  go_loop [5, 6] (fun s i => ∃ p : Nat, p ≤ n ∧ i = .int .i64 p ∧ s = .int .i64 (sumCnt n a p : Nat)) (fun _ i => n - (intOf i).toNat)
  case atStart => exact ⟨0, Nat.zero_le _, rfl, rfl⟩
  case round =>
    obtain ⟨p, hp, rfl, rfl⟩ := hrel
    by_cases hlt : p < n
    · have hcp := row_wf RA1.out p (by omega)
      have HE := Lib.hid (show sumCnt n a (p + 1) = sumCnt n a p + cnt p (a p) n from rfl)
      have b1 := sumCnt_le n a p
      have hl := LA.out p
      have b3 : n * p ≤ 25 := Nat.mul_le_mul h5 (show p ≤ 5 by omega)
      have b4 : sumCnt n a p ≤ 25 := Nat.le_trans b1 b3
      clear b1 b3
      generalize sumCnt n a p = s at *
      generalize a p = x at *
      go_wp2
      go_loop [5, 7] (fun t j => ∃ q : Nat, q ≤ n ∧ j = .int .i64 q ∧ t = .int .i64 (s + cnt p x q : Nat)) (fun _ j => n - (intOf j).toNat)
      case atStart => exact ⟨0, Nat.zero_le _, rfl, rfl⟩
      case round =>
        obtain ⟨q, hq, rfl, rfl⟩ := hrel
        have b2 := cnt_le p x q
        by_cases hlt2 : q < n
        · have HC := Lib.hid (show cnt p x (q + 1) = if q ≠ p ∧ x / 2 ^ q % 2 = 1 then cnt p x q + 1 else cnt p x q from rfl)
          generalize cnt p x q = c at *
          by_cases he : q = p
          · have HC2 := Lib.hid (show cnt p x (q + 1) = c by rw [HC.out, if_neg (by simp [he])])
            have hd : ((p : Int) != (q : Int)) = false := by simp [he]
            have HEQ := Lib.hid he
            clear he
            go_wp2
            go_round
            case rel => exact ⟨q + 1, by omega, by go_num, by first | (rw [HC2.out]; done) | (rw [HC2.out]; go_num)⟩
            case measure => simp [intOf]; omega
          · have hd : ((p : Int) != (q : Int)) = true := by simp; omega
            by_cases hbit : x / 2 ^ q % 2 = 1
            · have HX := Lib.hid (show (x / 2 ^ q % 2 == 1) = true by simp [hbit])
              have HC2 := Lib.hid (show cnt p x (q + 1) = c + 1 by rw [HC.out, if_pos ⟨he, hbit⟩])
              clear hbit he
              go_wp2_with (go_at_call 58; refine (has_any x q hl (by omega) _).mono ?_; rintro e w' ⟨rfl, rfl⟩; rw [HX.out])
              go_round
              case rel => exact ⟨q + 1, by omega, by go_num, by rw [HC2.out]; go_num⟩
              case measure => simp [intOf]; omega
            · have HX := Lib.hid (show (x / 2 ^ q % 2 == 1) = false by simp [hbit])
              have HC2 := Lib.hid (show cnt p x (q + 1) = c by rw [HC.out, if_neg (fun h => hbit h.2)])
              clear hbit he
              go_wp2_with (go_at_call 58; refine (has_any x q hl (by omega) _).mono ?_; rintro e w' ⟨rfl, rfl⟩; rw [HX.out])
              go_round
              case rel => exact ⟨q + 1, by omega, by go_num, by first | (rw [HC2.out]; done) | (rw [HC2.out]; go_num)⟩
              case measure => simp [intOf]; omega
        · have hk' : q = n := by omega
          subst hk'
          go_wp2
          go_round
          case rel => exact ⟨p + 1, by omega, by go_num, by first | (rw [HE.out]; done) | (rw [HE.out]; go_num)⟩
          case measure => simp [intOf]; omega
    · have hk' : p = n := by omega
      subst hk'
      go_wp2
      go_ret2
      exact ⟨rfl, t1.out⟩
end Go.Proofs.YtajhejdeijhccaaDoor.Graph
