/-
  Plain facts on graphs: kernels, numbers of edges, common processes, powers.
-/
import Derived.Test.YtlineonmpbdkgaaDoorEvGRel
namespace Go.Graph

/-- The processes that the first k all hear. -/
def kernTo (n : Nat) (r : Nat → Nat) : Nat → Nat
  | 0 => 2 ^ n - 1
  | k + 1 => kernTo n r k &&& r k
def kern (n : Nat) (r : Nat → Nat) : Nat := kernTo n r n
theorem kernTo_lt (n : Nat) (r : Nat → Nat) : ∀ k, kernTo n r k < 2 ^ n
  | 0 => by have := Nat.pow_pos (a := 2) (n := n) (by omega); unfold kernTo; omega
  | k + 1 => Nat.lt_of_le_of_lt Nat.and_le_left (kernTo_lt n r k)
/-- The number of the bits of x below k, but for bit p. -/
def cnt (p x : Nat) : Nat → Nat
  | 0 => 0
  | k + 1 => if k ≠ p ∧ x / 2 ^ k % 2 = 1 then cnt p x k + 1 else cnt p x k
theorem cnt_le (p x : Nat) : ∀ k, cnt p x k ≤ k
  | 0 => Nat.le_refl _
  | k + 1 => by have := cnt_le p x k; unfold cnt; split <;> omega
def pc (x : Nat) : Nat := cnt 5 x 5
theorem pc_le (x : Nat) : pc x ≤ 5 := cnt_le 5 x 5
theorem cnt_pc0 : ∀ n < 6, ∀ p < 5, ∀ x < 32, (p < n ∧ x < 2 ^ n ∧ x / 2 ^ p % 2 = 1 → cnt p x n + 1 = pc x) := by decide +kernel
theorem cnt_pc (n : Nat) (hn : n < 6) (p : Nat) (hp : p < 5) (x : Nat) (hx : x < 32) (h1 : p < n) (h2 : x < 2 ^ n) (h3 : x / 2 ^ p % 2 = 1) : cnt p x n + 1 = pc x := cnt_pc0 n hn p hp x hx ⟨h1, h2, h3⟩
def sumPc (r : Nat → Nat) : Nat → Nat
  | 0 => 0
  | k + 1 => sumPc r k + pc (r k)
def sumCnt (n : Nat) (r : Nat → Nat) : Nat → Nat
  | 0 => 0
  | k + 1 => sumCnt n r k + cnt k (r k) n
theorem sumPc_le (r : Nat → Nat) : ∀ k, sumPc r k ≤ 5 * k
  | 0 => Nat.le_refl _
  | k + 1 => by have := sumPc_le r k; have := pc_le (r k); unfold sumPc; omega
theorem sumCnt_le (n : Nat) (r : Nat → Nat) : ∀ k, sumCnt n r k ≤ n * k
  | 0 => Nat.le_refl _
  | k + 1 => by have := sumCnt_le n r k; have := cnt_le k (r k) n; unfold sumCnt; rw [Nat.mul_succ]; omega
theorem sum_low {n : Nat} {r : Nat → Nat} (h : WF n r) : ∀ k, k ≤ n → sumPc r k = sumCnt n r k + k
  | 0, _ => rfl
  | k + 1, hk => by
    have ih := sum_low h k (by omega)
    have h5 := h.top
    have hx : r k < 2 ^ n := h.low k (by omega)
    have hb := h.self k (by omega)
    rw [bit_div] at hb
    have hx32 : r k < 32 := Nat.lt_of_lt_of_le hx (Nat.pow_le_pow_right (by omega) h5)
    have := cnt_pc n (by omega) k (by omega) (r k) hx32 (by omega) hx (by simpa using hb)
    unfold sumPc sumCnt
    omega
theorem sum_high {n : Nat} {r : Nat → Nat} (h : WF n r) : ∀ d, sumPc r (n + d) = sumPc r n
  | 0 => rfl
  | d + 1 => by
    have ih := sum_high h d
    rw [show n + (d + 1) = (n + d) + 1 by omega]
    show sumPc r (n + d) + pc (r (n + d)) = _
    rw [h.out (n + d) (by omega), ih]
    show _ + pc 0 = _
    rw [show pc 0 = 0 by decide]; rfl
theorem sum_all {n : Nat} {r : Nat → Nat} (h : WF n r) : sumPc r 5 = sumCnt n r n + n := by
  have h5 := h.top
  have e := sum_high h (5 - n)
  rw [show n + (5 - n) = 5 by omega] at e
  rw [e]; exact sum_low h n (Nat.le_refl _)
/-- Any two of the first k processes hear a common one. -/
def NoSplit (r : Nat → Nat) (k : Nat) : Prop := ∀ p, p < k → ∀ q, q < p → r p &&& r q ≠ 0
instance (r : Nat → Nat) (k : Nat) : Decidable (NoSplit r k) := by unfold NoSplit; infer_instance
def nsp (r : Nat → Nat) (k : Nat) : Bool := decide (NoSplit r k)
/-- Powers of a graph: k further rounds. -/
def pw (n : Nat) (a : Nat → Nat) : Nat → Nat → Nat
  | 0 => a
  | k + 1 => prod n (pw n a k) a
theorem WF.pw {n : Nat} {a : Nat → Nat} (h : WF n a) : ∀ k, WF n (pw n a k)
  | 0 => h
  | k + 1 => (h.pw k).prod h
/-- All edges of a are edges of b. -/
def Within (a b : Nat → Nat) (k : Nat) : Prop := ∀ p, p < k → a p &&& b p = a p
instance (a b : Nat → Nat) (k : Nat) : Decidable (Within a b k) := by unfold Within; infer_instance
def wthn (a b : Nat → Nat) (k : Nat) : Bool := decide (Within a b k)
theorem within_join {n : Nat} {a b : Nat → Nat} (ha : WF n a) (hb : WF n b) : (∀ i, i < 5 → b i = join a b i) ↔ Within a b n := by
  have key : ∀ i, b i = join a b i ↔ a i &&& b i = a i := by
    intro i
    unfold join
    constructor
    · intro h
      apply Nat.eq_of_testBit_eq
      intro j
      have hj := congrArg (fun x => Nat.testBit x j) h
      simp only [Nat.testBit_or, Nat.testBit_and] at hj ⊢
      revert hj
      cases (a i).testBit j <;> cases (b i).testBit j <;> simp
    · intro h
      apply Nat.eq_of_testBit_eq
      intro j
      have hj := congrArg (fun x => Nat.testBit x j) h
      simp only [Nat.testBit_or, Nat.testBit_and] at hj ⊢
      revert hj
      cases (a i).testBit j <;> cases (b i).testBit j <;> simp
  have h5 := ha.top
  constructor
  · intro h p hp
    exact (key p).1 (h p (by omega))
  · intro h i hi
    by_cases hn : i < n
    · exact (key i).2 (h i hn)
    · rw [hb.out i (by omega)]; unfold join; rw [ha.out i (by omega), hb.out i (by omega)]; rfl
end Go.Graph
