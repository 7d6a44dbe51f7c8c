/-
  Roots of graphs.
-/
import Derived.Test.YtgkgdobmiejdhaaEvTGAny
import Derived.Test.YtgkgdobmiejdhaaEvGPlain
namespace Go.Proofs.Ytgkgdobmiejdhaa.Graph
open Go Go.RowKit Go.Graph Go.Law
open Go.Proofs.Ytgkgdobmiejdhaa.Col

theorem and_nat (x y : Nat) (hx : x < 32) (hy : y < 32) : bits BinOp.and IntKind.i64 (x : Int) (y : Int) = ((x &&& y : Nat) : Int) := i64_and_nat x y (by omega) (by omega)
theorem arr_slice (B o : Nat) : ∀ n : Nat, n ≤ 5 → ∀ w : World, (Instr.sliceAt 22 (.pointer (some ⟨B, o, none⟩)) none (some (.int .i64 (n : Int))) none).run Try.prog w = .ok (.slice (some ⟨B, o, none⟩) n 5) w
  | 0, _ => fun _ => by kernel_rfl
  | 1, _ => fun _ => by kernel_rfl
  | 2, _ => fun _ => by kernel_rfl
  | 3, _ => fun _ => by kernel_rfl
  | 4, _ => fun _ => by kernel_rfl
  | 5, _ => fun _ => by kernel_rfl
theorem kern_zero (n : Nat) (a : Nat → Nat) : (2 : Int) ^ n - 1 = ((kernTo n a 0 : Nat) : Int) := by
  have h := Nat.pow_pos (a := 2) (n := n) (by omega)
  have e : ((2 ^ n - 1 : Nat) : Int) = ((2 ^ n : Nat) : Int) - 1 := by omega
  show _ = ((2 ^ n - 1 : Nat) : Int)
  rw [e]; push_cast; rfl
set_option maxRecDepth 100000 in
set_option maxHeartbeats 1000000 in
theorem kernel_wf {n : Nat} {a : Nat → Nat} (ha : WF n a) (w : World) : Calls Try.prog 30 #[.agg #[.int .i64 n, .int .i64 (a 0), .int .i64 (a 1), .int .i64 (a 2), .int .i64 (a 3), .int .i64 (a 4)]] w fun e w' => e = .returned (.int .i64 (kern n a : Nat)) ∧ Below w.heap.size w w' := by
  have h5 := ha.top
  have h32 := pow_le32 h5
  have hp2 : (2 : Int) ^ n ≤ 32 := by exact_mod_cast h32
  have hp0 : 1 ≤ (2 : Int) ^ n := by have := Nat.pow_pos (a := 2) (n := n) (by omega); exact_mod_cast this
  have LA := Lib.hid ha.lt32
  have LK := Lib.hid (fun k => Nat.lt_of_lt_of_le (kernTo_lt n a k) h32)
  clear ha h32
  have HZ := Lib.hid (kern_zero n a)
  have RA := Lib.hid (row_new w n (a 0) (a 1) (a 2) (a 3) (a 4))
  have T0 := Lib.hid (below_alloc w (.cells #[.int .i64 n, .int .i64 (a 0), .int .i64 (a 1), .int .i64 (a 2), .int .i64 (a 3), .int .i64 (a 4)] 24))
  have hsl := arr_slice w.heap.size 1 n h5
  go_enter Try.func30, Try.ntmps30
  go_wp2
  go_loop [3, 15] (fun r i => ∃ k : Nat, k ≤ n ∧ i = .int .i64 k ∧ r = .int .i64 (kernTo n a k : Nat)) (fun _ i => n - (intOf i).toNat)
  case atStart => exact ⟨0, Nat.zero_le _, rfl, by rw [← HZ.out]⟩
  case round =>
    obtain ⟨k, hk, rfl, rfl⟩ := hrel
    by_cases hlt : k < n
    · have hc := row_wf RA.out k (by omega)
      have HA := Lib.hid (and_nat (kernTo n a k) (a k) (LK.out k) (LA.out k))
      have HE := Lib.hid (show kernTo n a (k + 1) = kernTo n a k &&& a k from rfl)
      generalize kernTo n a k = x at *
      go_wp2
      go_round
      case rel => exact ⟨k + 1, by omega, by go_num, by rw [HE.out, HA.out]⟩
      case measure => simp [intOf]; omega
    · have hk' : k = n := by omega
      subst hk'
      go_wp2
      go_ret
      exact ⟨rfl, T0.out⟩
set_option maxRecDepth 100000 in
set_option maxHeartbeats 1000000 in
theorem ker33_wf {n : Nat} {a : Nat → Nat} (ha : WF n a) (w : World) : Calls Try.prog 14 #[.agg #[.int .i64 n, .int .i64 (a 0), .int .i64 (a 1), .int .i64 (a 2), .int .i64 (a 3), .int .i64 (a 4)]] w fun e w' => e = .returned (.tuple #[.int .i64 (kern n a : Nat), .int .i64 0]) ∧ Below w.heap.size w w' := by
  have HB := Lib.hid (check_wf ha)
  have HK := Lib.hid (kernel_wf ha)
  clear ha
  have RA := Lib.hid (row_new w n (a 0) (a 1) (a 2) (a 3) (a 4))
  have T0 := Lib.hid (below_alloc w (.cells #[.int .i64 n, .int .i64 (a 0), .int .i64 (a 1), .int .i64 (a 2), .int .i64 (a 3), .int .i64 (a 4)] 24))
  go_enter Try.func14, Try.ntmps14
  go_wp2_with first
    | (go_at_call 30; refine (HK.out _).mono ?_; rintro e w2 ⟨rfl, hb2⟩; have t2 := Lib.hid (t1.out.trans (bel_le hb2 t1.out.size)); clear hb2)
    | (go_at_call 28; refine (HB.out _).mono ?_; rintro e w1 ⟨rfl, hb1⟩; have t1 := Lib.hid (T0.out.trans (bel_le hb1 T0.out.size)); obtain ⟨q0, q1, q2, q3, q4, q5⟩ := row_below RA.out hb1; clear hb1)
  go_ret2
  exact ⟨rfl, t2.out⟩
end Go.Proofs.Ytgkgdobmiejdhaa.Graph
namespace Go.Proofs.Ytgkgdobmiejdhaa.Graph
open Go Go.RowKit Go.Graph Go.Law
open Go.Proofs.Ytgkgdobmiejdhaa.Col

theorem and_yes (x y : Nat) (hx : x < 32) (hy : y < 32) (h : x &&& y = 0) : (bits BinOp.and IntKind.i64 (x : Int) (y : Int) == 0) = true := by rw [and_nat x y hx hy, h]; rfl
theorem and_no (x y : Nat) (hx : x < 32) (hy : y < 32) (h : x &&& y ≠ 0) : (bits BinOp.and IntKind.i64 (x : Int) (y : Int) == 0) = false := by rw [and_nat x y hx hy]; simpa using h
theorem nsp_no {r : Nat → Nat} {n p q : Nat} (hp : p < n) (hq : q < p) (h : r p &&& r q = 0) : nsp r n = false := by
  unfold nsp; rw [decide_eq_false_iff_not]; exact fun hn => hn p hp q hq h
theorem nsp_yes {r : Nat → Nat} {n : Nat} (h : NoSplit r n) : nsp r n = true := by unfold nsp; simpa using h
theorem ret_bi {a b : Bool} {c : Int} (h : a = b) : Ending.returned (.tuple #[.bool a, .int .i64 c]) = .returned (.tuple #[.bool b, .int .i64 c]) := by rw [h]
end Go.Proofs.Ytgkgdobmiejdhaa.Graph
namespace Go.Proofs.Ytgkgdobmiejdhaa.Graph
open Go Go.RowKit Go.Graph Go.Law
open Go.Proofs.Ytgkgdobmiejdhaa.Col

/-- The cells of a graph. -/
def gl (n : Nat) (r : Nat → Nat) : List Value := [.int .i64 n, .int .i64 (r 0), .int .i64 (r 1), .int .i64 (r 2), .int .i64 (r 3), .int .i64 (r 4)]
theorem own_set6 {w : World} {B : Nat} {t : TypeId} {x0 x1 x2 x3 x4 x5 : Value} (h : Own w B t [x0, x1, x2, x3, x4, x5]) (y0 y1 y2 y3 y4 y5 : Value) :
    Own ((((((w.setCell ⟨B, 0, none⟩ y0).setCell ⟨B, 1, none⟩ y1).setCell ⟨B, 2, none⟩ y2).setCell ⟨B, 3, none⟩ y3).setCell ⟨B, 4, none⟩ y4).setCell ⟨B, 5, none⟩ y5) B t [y0, y1, y2, y3, y4, y5] :=
  (((((h.set 0 y0).set 1 y1).set 2 y2).set 3 y3).set 4 y4).set 5 y5
theorem below_set6 {w w' : World} {B S : Nat} (h : Below S w w') (hB : S ≤ B) (y0 y1 y2 y3 y4 y5 : Value) :
    Below S w ((((((w'.setCell ⟨B, 0, none⟩ y0).setCell ⟨B, 1, none⟩ y1).setCell ⟨B, 2, none⟩ y2).setCell ⟨B, 3, none⟩ y3).setCell ⟨B, 4, none⟩ y4).setCell ⟨B, 5, none⟩ y5) :=
  (((((h.setCell hB y0).setCell hB y1).setCell hB y2).setCell hB y3).setCell hB y4).setCell hB y5
end Go.Proofs.Ytgkgdobmiejdhaa.Graph
