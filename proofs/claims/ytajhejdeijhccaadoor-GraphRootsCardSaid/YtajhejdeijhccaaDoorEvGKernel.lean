/-
  Kernels of graphs.
-/
import Derived.Test.YtajhejdeijhccaaDoorEvGRefProd
import Derived.Test.YtajhejdeijhccaaDoorEvGAny
namespace Go.Graph

/-- The processes that the first k all hear. -/
def kernTo (n : Nat) (r : Nat → Nat) : Nat → Nat
  | 0 => 2 ^ n - 1
  | k + 1 => kernTo n r k &&& r k
def kern (n : Nat) (r : Nat → Nat) : Nat := kernTo n r n
theorem kernTo_lt (n : Nat) (r : Nat → Nat) : ∀ k, kernTo n r k < 2 ^ n
  | 0 => by have := Nat.pow_pos (a := 2) (n := n) (by omega); unfold kernTo; omega
  | k + 1 => Nat.lt_of_le_of_lt Nat.and_le_left (kernTo_lt n r k)
/-- The number of the bits of x below k, but for bit p. -/
def cnt (p x : Nat) : Nat → Nat
  | 0 => 0
  | k + 1 => if k ≠ p ∧ x / 2 ^ k % 2 = 1 then cnt p x k + 1 else cnt p x k
theorem cnt_le (p x : Nat) : ∀ k, cnt p x k ≤ k
  | 0 => Nat.le_refl _
  | k + 1 => by have := cnt_le p x k; unfold cnt; split <;> omega
def pc (x : Nat) : Nat := cnt 5 x 5
theorem pc_le (x : Nat) : pc x ≤ 5 := cnt_le 5 x 5
theorem cnt_pc0 : ∀ n < 6, ∀ p < 5, ∀ x < 32, (p < n ∧ x < 2 ^ n ∧ x / 2 ^ p % 2 = 1 → cnt p x n + 1 = pc x) := by decide +kernel
theorem cnt_pc (n : Nat) (hn : n < 6) (p : Nat) (hp : p < 5) (x : Nat) (hx : x < 32) (h1 : p < n) (h2 : x < 2 ^ n) (h3 : x / 2 ^ p % 2 = 1) : cnt p x n + 1 = pc x := cnt_pc0 n hn p hp x hx ⟨h1, h2, h3⟩
def sumPc (r : Nat → Nat) : Nat → Nat
  | 0 => 0
  | k + 1 => sumPc r k + pc (r k)
def sumCnt (n : Nat) (r : Nat → Nat) : Nat → Nat
  | 0 => 0
  | k + 1 => sumCnt n r k + cnt k (r k) n
theorem sumPc_le (r : Nat → Nat) : ∀ k, sumPc r k ≤ 5 * k
  | 0 => Nat.le_refl _
  | k + 1 => by have := sumPc_le r k; have := pc_le (r k); unfold sumPc; omega
theorem sumCnt_le (n : Nat) (r : Nat → Nat) : ∀ k, sumCnt n r k ≤ n * k
  | 0 => Nat.le_refl _
  | k + 1 => by have := sumCnt_le n r k; have := cnt_le k (r k) n; unfold sumCnt; rw [Nat.mul_succ]; omega
theorem sum_low {n : Nat} {r : Nat → Nat} (h : WF n r) : ∀ k, k ≤ n → sumPc r k = sumCnt n r k + k
  | 0, _ => rfl
  | k + 1, hk => by
    have ih := sum_low h k (by omega)
    have h5 := h.top
    have hx : r k < 2 ^ n := h.low k (by omega)
    have hb := h.self k (by omega)
    rw [bit_div] at hb
    have hx32 : r k < 32 := Nat.lt_of_lt_of_le hx (Nat.pow_le_pow_right (by omega) h5)
    have := cnt_pc n (by omega) k (by omega) (r k) hx32 (by omega) hx (by simpa using hb)
    unfold sumPc sumCnt
    omega
theorem sum_high {n : Nat} {r : Nat → Nat} (h : WF n r) : ∀ d, sumPc r (n + d) = sumPc r n
  | 0 => rfl
  | d + 1 => by
    have ih := sum_high h d
    rw [show n + (d + 1) = (n + d) + 1 by omega]
    show sumPc r (n + d) + pc (r (n + d)) = _
    rw [h.out (n + d) (by omega), ih]
    show _ + pc 0 = _
    rw [show pc 0 = 0 by decide]; rfl
theorem sum_all {n : Nat} {r : Nat → Nat} (h : WF n r) : sumPc r 5 = sumCnt n r n + n := by
  have h5 := h.top
  have e := sum_high h (5 - n)
  rw [show n + (5 - n) = 5 by omega] at e
  rw [e]; exact sum_low h n (Nat.le_refl _)
/-- Any two of the first k processes hear a common one. -/
def NoSplit (r : Nat → Nat) (k : Nat) : Prop := ∀ p, p < k → ∀ q, q < p → r p &&& r q ≠ 0
instance (r : Nat → Nat) (k : Nat) : Decidable (NoSplit r k) := by unfold NoSplit; infer_instance
def nsp (r : Nat → Nat) (k : Nat) : Bool := decide (NoSplit r k)
/-- Powers of a graph: k further rounds. -/
def pw (n : Nat) (a : Nat → Nat) : Nat → Nat → Nat
  | 0 => a
  | k + 1 => prod n (pw n a k) a
theorem WF.pw {n : Nat} {a : Nat → Nat} (h : WF n a) : ∀ k, WF n (pw n a k)
  | 0 => h
  | k + 1 => (h.pw k).prod h
/-- All edges of a are edges of b. -/
def Within (a b : Nat → Nat) (k : Nat) : Prop := ∀ p, p < k → a p &&& b p = a p
instance (a b : Nat → Nat) (k : Nat) : Decidable (Within a b k) := by unfold Within; infer_instance
def wthn (a b : Nat → Nat) (k : Nat) : Bool := decide (Within a b k)
theorem within_join {n : Nat} {a b : Nat → Nat} (ha : WF n a) (hb : WF n b) : (∀ i, i < 5 → b i = join a b i) ↔ Within a b n := by
  have key : ∀ i, b i = join a b i ↔ a i &&& b i = a i := by
    intro i
    unfold join
    constructor
    · intro h
      apply Nat.eq_of_testBit_eq
      intro j
      have hj := congrArg (fun x => Nat.testBit x j) h
      simp only [Nat.testBit_or, Nat.testBit_and] at hj ⊢
      revert hj
      cases (a i).testBit j <;> cases (b i).testBit j <;> simp
    · intro h
      apply Nat.eq_of_testBit_eq
      intro j
      have hj := congrArg (fun x => Nat.testBit x j) h
      simp only [Nat.testBit_or, Nat.testBit_and] at hj ⊢
      revert hj
      cases (a i).testBit j <;> cases (b i).testBit j <;> simp
  have h5 := ha.top
  constructor
  · intro h p hp
    exact (key p).1 (h p (by omega))
  · intro h i hi
    by_cases hn : i < n
    · exact (key i).2 (h i hn)
    · rw [hb.out i (by omega)]; unfold join; rw [ha.out i (by omega), hb.out i (by omega)]; rfl
end Go.Graph
namespace Go.Proofs.YtajhejdeijhccaaDoor.Graph
open Go Go.RowKit Go.Graph Go.Law
open Go.Proofs.YtajhejdeijhccaaDoor.Col

theorem and_nat (x y : Nat) (hx : x < 32) (hy : y < 32) : bits BinOp.and IntKind.i64 (x : Int) (y : Int) = ((x &&& y : Nat) : Int) := i64_and_nat x y (by omega) (by omega)
theorem arr_slice (B o : Nat) : ∀ n : Nat, n ≤ 5 → ∀ w : World, (Instr.sliceAt 22 (.pointer (some ⟨B, o, none⟩)) none (some (.int .i64 (n : Int))) none).run Tryd.prog w = .ok (.slice (some ⟨B, o, none⟩) n 5) w
  | 0, _ => fun _ => by kernel_rfl
  | 1, _ => fun _ => by kernel_rfl
  | 2, _ => fun _ => by kernel_rfl
  | 3, _ => fun _ => by kernel_rfl
  | 4, _ => fun _ => by kernel_rfl
  | 5, _ => fun _ => by kernel_rfl
theorem kern_zero (n : Nat) (a : Nat → Nat) : (2 : Int) ^ n - 1 = ((kernTo n a 0 : Nat) : Int) := by
  have h := Nat.pow_pos (a := 2) (n := n) (by omega)
  have e : ((2 ^ n - 1 : Nat) : Int) = ((2 ^ n : Nat) : Int) - 1 := by omega
  show _ = ((2 ^ n - 1 : Nat) : Int)
  rw [e]; push_cast; rfl
set_option maxRecDepth 100000 in
set_option maxHeartbeats 1000000 in
theorem kernel_wf {n : Nat} {a : Nat → Nat} (ha : WF n a) (w : World) : Calls Tryd.prog 70 #[.agg #[.int .i64 n, .int .i64 (a 0), .int .i64 (a 1), .int .i64 (a 2), .int .i64 (a 3), .int .i64 (a 4)]] w fun e w' => e = .returned (.int .i64 (kern n a : Nat)) ∧ Below w.heap.size w w' := by
  have h5 := ha.top
  have h32 := pow_le32 h5
  have hp2 : (2 : Int) ^ n ≤ 32 := by exact_mod_cast h32
  have hp0 : 1 ≤ (2 : Int) ^ n := by have := Nat.pow_pos (a := 2) (n := n) (by omega); exact_mod_cast this
  have LA := Lib.hid ha.lt32
  have LK := Lib.hid (fun k => Nat.lt_of_lt_of_le (kernTo_lt n a k) h32)
  clear ha h32
  have HZ := Lib.hid (kern_zero n a)
  have RA := Lib.hid (row_new w n (a 0) (a 1) (a 2) (a 3) (a 4))
  have T0 := Lib.hid (below_alloc w (.cells #[.int .i64 n, .int .i64 (a 0), .int .i64 (a 1), .int .i64 (a 2), .int .i64 (a 3), .int .i64 (a 4)] 24))
  have hsl := arr_slice w.heap.size 1 n h5
  go_enter Tryd.func70, Tryd.ntmps70
  go_wp2
  go_loop [3, 15] (fun r i => ∃ k : Nat, k ≤ n ∧ i = .int .i64 k ∧ r = .int .i64 (kernTo n a k : Nat)) (fun _ i => n - (intOf i).toNat)
  case atStart => exact ⟨0, Nat.zero_le _, rfl, by rw [← HZ.out]⟩
  case round =>
    obtain ⟨k, hk, rfl, rfl⟩ := hrel
    by_cases hlt : k < n
    · have hc := row_wf RA.out k (by omega)
      have HA := Lib.hid (and_nat (kernTo n a k) (a k) (LK.out k) (LA.out k))
      have HE := Lib.hid (show kernTo n a (k + 1) = kernTo n a k &&& a k from rfl)
      generalize kernTo n a k = x at *
      go_wp2
      go_round
      case rel => exact ⟨k + 1, by omega, by go_num, by rw [HE.out, HA.out]⟩
      case measure => simp [intOf]; omega
    · have hk' : k = n := by omega
      subst hk'
      go_wp2
      go_ret
      exact ⟨rfl, T0.out⟩
set_option maxRecDepth 100000 in
set_option maxHeartbeats 1000000 in
theorem common_wf {n : Nat} {a : Nat → Nat} (ha : WF n a) (w : World) : Calls Tryd.prog 71 #[.agg #[.int .i64 n, .int .i64 (a 0), .int .i64 (a 1), .int .i64 (a 2), .int .i64 (a 3), .int .i64 (a 4)]] w fun e w' => e = .returned (.int .i64 (kern n a : Nat)) ∧ Below w.heap.size w w' := by
  have h5 := ha.top
  have h32 := pow_le32 h5
  have LA := Lib.hid ha.lt32
  have LK := Lib.hid (fun k => Nat.lt_of_lt_of_le (kernTo_lt n a k) h32)
  clear ha h32
  have HZ := Lib.hid (show ((2 ^ n : Nat) : Int) - 1 = ((kernTo n a 0 : Nat) : Int) by rw [← kern_zero n a]; push_cast; rfl)
  have RA := Lib.hid (row_new w n (a 0) (a 1) (a 2) (a 3) (a 4))
  have T0 := Lib.hid (below_alloc w (.cells #[.int .i64 n, .int .i64 (a 0), .int .i64 (a 1), .int .i64 (a 2), .int .i64 (a 3), .int .i64 (a 4)] 24))
  have hn0 := RA.out.1
  go_enter Tryd.func71, Tryd.ntmps71
  go_wp2_with (go_at_call 55; refine (full_any n h5 _).mono ?_; rintro e w' ⟨rfl, rfl⟩; rw [HZ.out])
  go_loop [3, 4] (fun r i => ∃ k : Nat, k ≤ n ∧ i = .int .i64 k ∧ r = .int .i64 (kernTo n a k : Nat)) (fun _ i => n - (intOf i).toNat)
  case atStart => exact ⟨0, Nat.zero_le _, rfl, rfl⟩
  case round =>
    obtain ⟨k, hk, rfl, rfl⟩ := hrel
    by_cases hlt : k < n
    · have hc := row_wf RA.out k (by omega)
      have HA := Lib.hid (and_nat (kernTo n a k) (a k) (LK.out k) (LA.out k))
      have HE := Lib.hid (show kernTo n a (k + 1) = kernTo n a k &&& a k from rfl)
      generalize kernTo n a k = x at *
      go_wp2
      go_round
      case rel => exact ⟨k + 1, by omega, by go_num, by rw [HE.out, HA.out]⟩
      case measure => simp [intOf]; omega
    · have hk' : k = n := by omega
      subst hk'
      go_wp2
      go_ret
      exact ⟨rfl, T0.out⟩
set_option maxRecDepth 100000 in
set_option maxHeartbeats 1000000 in
theorem ker33_wf {n : Nat} {a : Nat → Nat} (ha : WF n a) (w : World) : Calls Tryd.prog 33 #[.agg #[.int .i64 n, .int .i64 (a 0), .int .i64 (a 1), .int .i64 (a 2), .int .i64 (a 3), .int .i64 (a 4)]] w fun e w' => e = .returned (.tuple #[.int .i64 (kern n a : Nat), .int .i64 0]) ∧ Below w.heap.size w w' := by
  have HB := Lib.hid (check_wf ha)
  have HK := Lib.hid (kernel_wf ha)
  clear ha
  have RA := Lib.hid (row_new w n (a 0) (a 1) (a 2) (a 3) (a 4))
  have T0 := Lib.hid (below_alloc w (.cells #[.int .i64 n, .int .i64 (a 0), .int .i64 (a 1), .int .i64 (a 2), .int .i64 (a 3), .int .i64 (a 4)] 24))
  go_enter Tryd.func33, Tryd.ntmps33
  go_wp2_with first
    | (go_at_call 70; refine (HK.out _).mono ?_; rintro e w2 ⟨rfl, hb2⟩; have t2 := Lib.hid (t1.out.trans (bel_le hb2 t1.out.size)); clear hb2)
    | (go_at_call 16; refine (HB.out _).mono ?_; rintro e w1 ⟨rfl, hb1⟩; have t1 := Lib.hid (T0.out.trans (bel_le hb1 T0.out.size)); obtain ⟨q0, q1, q2, q3, q4, q5⟩ := row_below RA.out hb1; clear hb1)
  go_ret2
  exact ⟨rfl, t2.out⟩
set_option maxRecDepth 100000 in
set_option maxHeartbeats 1000000 in
theorem ker34_wf {n : Nat} {a : Nat → Nat} (ha : WF n a) (w : World) : Calls Tryd.prog 34 #[.agg #[.int .i64 n, .int .i64 (a 0), .int .i64 (a 1), .int .i64 (a 2), .int .i64 (a 3), .int .i64 (a 4)]] w fun e w' => e = .returned (.tuple #[.int .i64 (kern n a : Nat), .int .i64 0]) ∧ Below w.heap.size w w' := by
  have HB := Lib.hid (rcheck_wf ha)
  have HK := Lib.hid (common_wf ha)
  clear ha
  have RA := Lib.hid (row_new w n (a 0) (a 1) (a 2) (a 3) (a 4))
  have T0 := Lib.hid (below_alloc w (.cells #[.int .i64 n, .int .i64 (a 0), .int .i64 (a 1), .int .i64 (a 2), .int .i64 (a 3), .int .i64 (a 4)] 24))
  go_enter Tryd.func34, Tryd.ntmps34
  go_wp2_with first
    | (go_at_call 71; refine (HK.out _).mono ?_; rintro e w2 ⟨rfl, hb2⟩; have t2 := Lib.hid (t1.out.trans (bel_le hb2 t1.out.size)); clear hb2)
    | (go_at_call 17; refine (HB.out _).mono ?_; rintro e w1 ⟨rfl, hb1⟩; have t1 := Lib.hid (T0.out.trans (bel_le hb1 T0.out.size)); obtain ⟨q0, q1, q2, q3, q4, q5⟩ := row_below RA.out hb1; clear hb1)
  go_ret2
  exact ⟨rfl, t2.out⟩
end Go.Proofs.YtajhejdeijhccaaDoor.Graph
