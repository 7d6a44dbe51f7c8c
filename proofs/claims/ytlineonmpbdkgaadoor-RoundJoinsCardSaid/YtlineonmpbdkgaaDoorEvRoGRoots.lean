/-
  Roots of graphs.
-/
import Derived.Test.YtlineonmpbdkgaaDoorEvGRel
import Derived.Test.YtlineonmpbdkgaaDoorEvRoGRefProd
namespace Go.Graph

/-- The processes that the first k all hear. -/
def kernTo (n : Nat) (r : Nat → Nat) : Nat → Nat
  | 0 => 2 ^ n - 1
  | k + 1 => kernTo n r k &&& r k
def kern (n : Nat) (r : Nat → Nat) : Nat := kernTo n r n
theorem kernTo_lt (n : Nat) (r : Nat → Nat) : ∀ k, kernTo n r k < 2 ^ n
  | 0 => by have := Nat.pow_pos (a := 2) (n := n) (by omega); unfold kernTo; omega
  | k + 1 => Nat.lt_of_le_of_lt Nat.and_le_left (kernTo_lt n r k)
/-- The number of the bits of x below k, but for bit p. -/
def cnt (p x : Nat) : Nat → Nat
  | 0 => 0
  | k + 1 => if k ≠ p ∧ x / 2 ^ k % 2 = 1 then cnt p x k + 1 else cnt p x k
theorem cnt_le (p x : Nat) : ∀ k, cnt p x k ≤ k
  | 0 => Nat.le_refl _
  | k + 1 => by have := cnt_le p x k; unfold cnt; split <;> omega
def pc (x : Nat) : Nat := cnt 5 x 5
theorem pc_le (x : Nat) : pc x ≤ 5 := cnt_le 5 x 5
theorem cnt_pc0 : ∀ n < 6, ∀ p < 5, ∀ x < 32, (p < n ∧ x < 2 ^ n ∧ x / 2 ^ p % 2 = 1 → cnt p x n + 1 = pc x) := by decide +kernel
theorem cnt_pc (n : Nat) (hn : n < 6) (p : Nat) (hp : p < 5) (x : Nat) (hx : x < 32) (h1 : p < n) (h2 : x < 2 ^ n) (h3 : x / 2 ^ p % 2 = 1) : cnt p x n + 1 = pc x := cnt_pc0 n hn p hp x hx ⟨h1, h2, h3⟩
def sumPc (r : Nat → Nat) : Nat → Nat
  | 0 => 0
  | k + 1 => sumPc r k + pc (r k)
def sumCnt (n : Nat) (r : Nat → Nat) : Nat → Nat
  | 0 => 0
  | k + 1 => sumCnt n r k + cnt k (r k) n
theorem sumPc_le (r : Nat → Nat) : ∀ k, sumPc r k ≤ 5 * k
  | 0 => Nat.le_refl _
  | k + 1 => by have := sumPc_le r k; have := pc_le (r k); unfold sumPc; omega
theorem sumCnt_le (n : Nat) (r : Nat → Nat) : ∀ k, sumCnt n r k ≤ n * k
  | 0 => Nat.le_refl _
  | k + 1 => by have := sumCnt_le n r k; have := cnt_le k (r k) n; unfold sumCnt; rw [Nat.mul_succ]; omega
theorem sum_low {n : Nat} {r : Nat → Nat} (h : WF n r) : ∀ k, k ≤ n → sumPc r k = sumCnt n r k + k
  | 0, _ => rfl
  | k + 1, hk => by
    have ih := sum_low h k (by omega)
    have h5 := h.top
    have hx : r k < 2 ^ n := h.low k (by omega)
    have hb := h.self k (by omega)
    rw [bit_div] at hb
    have hx32 : r k < 32 := Nat.lt_of_lt_of_le hx (Nat.pow_le_pow_right (by omega) h5)
    have := cnt_pc n (by omega) k (by omega) (r k) hx32 (by omega) hx (by simpa using hb)
    unfold sumPc sumCnt
    omega
theorem sum_high {n : Nat} {r : Nat → Nat} (h : WF n r) : ∀ d, sumPc r (n + d) = sumPc r n
  | 0 => rfl
  | d + 1 => by
    have ih := sum_high h d
    rw [show n + (d + 1) = (n + d) + 1 by omega]
    show sumPc r (n + d) + pc (r (n + d)) = _
    rw [h.out (n + d) (by omega), ih]
    show _ + pc 0 = _
    rw [show pc 0 = 0 by decide]; rfl
theorem sum_all {n : Nat} {r : Nat → Nat} (h : WF n r) : sumPc r 5 = sumCnt n r n + n := by
  have h5 := h.top
  have e := sum_high h (5 - n)
  rw [show n + (5 - n) = 5 by omega] at e
  rw [e]; exact sum_low h n (Nat.le_refl _)
/-- Any two of the first k processes hear a common one. -/
def NoSplit (r : Nat → Nat) (k : Nat) : Prop := ∀ p, p < k → ∀ q, q < p → r p &&& r q ≠ 0
instance (r : Nat → Nat) (k : Nat) : Decidable (NoSplit r k) := by unfold NoSplit; infer_instance
def nsp (r : Nat → Nat) (k : Nat) : Bool := decide (NoSplit r k)
/-- Powers of a graph: k further rounds. -/
def pw (n : Nat) (a : Nat → Nat) : Nat → Nat → Nat
  | 0 => a
  | k + 1 => prod n (pw n a k) a
theorem WF.pw {n : Nat} {a : Nat → Nat} (h : WF n a) : ∀ k, WF n (pw n a k)
  | 0 => h
  | k + 1 => (h.pw k).prod h
/-- All edges of a are edges of b. -/
def Within (a b : Nat → Nat) (k : Nat) : Prop := ∀ p, p < k → a p &&& b p = a p
instance (a b : Nat → Nat) (k : Nat) : Decidable (Within a b k) := by unfold Within; infer_instance
def wthn (a b : Nat → Nat) (k : Nat) : Bool := decide (Within a b k)
theorem within_join {n : Nat} {a b : Nat → Nat} (ha : WF n a) (hb : WF n b) : (∀ i, i < 5 → b i = join a b i) ↔ Within a b n := by
  have key : ∀ i, b i = join a b i ↔ a i &&& b i = a i := by
    intro i
    unfold join
    constructor
    · intro h
      apply Nat.eq_of_testBit_eq
      intro j
      have hj := congrArg (fun x => Nat.testBit x j) h
      simp only [Nat.testBit_or, Nat.testBit_and] at hj ⊢
      revert hj
      cases (a i).testBit j <;> cases (b i).testBit j <;> simp
    · intro h
      apply Nat.eq_of_testBit_eq
      intro j
      have hj := congrArg (fun x => Nat.testBit x j) h
      simp only [Nat.testBit_or, Nat.testBit_and] at hj ⊢
      revert hj
      cases (a i).testBit j <;> cases (b i).testBit j <;> simp
  have h5 := ha.top
  constructor
  · intro h p hp
    exact (key p).1 (h p (by omega))
  · intro h i hi
    by_cases hn : i < n
    · exact (key i).2 (h i hn)
    · rw [hb.out i (by omega)]; unfold join; rw [ha.out i (by omega), hb.out i (by omega)]; rfl
end Go.Graph
namespace Go.Proofs.YtlineonmpbdkgaaDoor.Graph
open Go Go.RowKit Go.Graph Go.Law
open Go.Proofs.YtlineonmpbdkgaaDoor.Col

/-- Five rows, of which the first k are those of g, the others those of r. -/
def mix (g r : Nat → Int) (k : Nat) : List Int := (List.range 5).map fun i => if i < k then g i else r i
theorem mix_length (g r : Nat → Int) (k : Nat) : (mix g r k).length = 5 := by simp [mix]
theorem mix_get (g r : Nat → Int) (k i : Nat) (h : i < 5) : (mix g r k)[i]? = some (if i < k then g i else r i) := by simp [mix, h]
theorem mix_zero (g r : Nat → Int) : mix g r 0 = [r 0, r 1, r 2, r 3, r 4] := rfl
theorem mix_set (g r : Nat → Int) (k : Nat) : (mix g r k).set k (g k) = mix g r (k + 1) := by
  apply List.ext_getElem?
  intro i
  by_cases hi : i < 5
  · rw [mix_get g r (k + 1) i hi]
    by_cases hik : i = k
    · subst hik
      rw [List.getElem?_set_self (by rw [mix_length]; exact hi), if_pos (by omega)]
    · rw [List.getElem?_set_ne (by omega), mix_get g r k i hi]
      by_cases h : i < k
      · rw [if_pos h, if_pos (by omega)]
      · rw [if_neg h, if_neg (by omega)]
  · rw [List.getElem?_eq_none (by rw [List.length_set, mix_length]; omega), List.getElem?_eq_none (by rw [mix_length]; omega)]
theorem mix_cell (n : Int) (g r : Nat → Int) (k : Nat) (h : k < 5) : (Value.int .i64 n :: (mix g r k).map (Value.int .i64))[1 + k]? = some (.int .i64 (r k)) := by
  rw [Nat.add_comm, List.getElem?_cons_succ, List.getElem?_map, mix_get g r k k h, if_neg (by omega)]; rfl
theorem mix_row (n : Int) (g r : Nat → Int) (k : Nat) : (Value.int .i64 n :: (mix g r k).map (Value.int .i64)).set (1 + k) (.int .i64 (g k)) = Value.int .i64 n :: (mix g r (k + 1)).map (Value.int .i64) := by
  rw [Nat.add_comm, List.set_cons_succ, ← List.map_set, mix_set g r k]
theorem mix_all (g r : Nat → Nat) (n : Nat) (h : ∀ i, n ≤ i → r i = g i) : mix (fun i => (g i : Int)) (fun i => (r i : Int)) n = [(g 0 : Int), (g 1 : Int), (g 2 : Int), (g 3 : Int), (g 4 : Int)] := by
  have e : mix (fun i => (g i : Int)) (fun i => (r i : Int)) n = (List.range 5).map fun i => (g i : Int) := by
    unfold mix
    apply List.map_congr_left
    intro i _
    split
    · rfl
    · rename_i hlt; show (r i : Int) = g i; rw [h i (by omega)]
  rw [e]; rfl
end Go.Proofs.YtlineonmpbdkgaaDoor.Graph
namespace Go.Proofs.YtlineonmpbdkgaaDoor.Graph
open Go Go.RowKit Go.Graph Go.Law
open Go.Proofs.YtlineonmpbdkgaaDoor.Col

end Go.Proofs.YtlineonmpbdkgaaDoor.Graph
namespace Go.Proofs.YtlineonmpbdkgaaDoor.Graph
open Go Go.RowKit Go.Graph Go.Law
open Go.Proofs.YtlineonmpbdkgaaDoor.Col

/-- A graph is well-formed, or has an error. -/
theorem wf_or (n r0 r1 r2 r3 r4 : Int) : (∃ (k : Nat) (r : Nat → Nat), WF k r ∧ n = k ∧ r0 = r 0 ∧ r1 = r 1 ∧ r2 = r 2 ∧ r3 = r 3 ∧ r4 = r 4) ∨ ∃ c : Int, c ≠ 0 ∧ (∀ w : World, Calls Tryd.prog 34 #[.agg #[.int .i64 n, .int .i64 r0, .int .i64 r1, .int .i64 r2, .int .i64 r3, .int .i64 r4]] w fun e w' => e = .returned (.int .i64 c) ∧ Below w.heap.size w w') ∧ (∀ w : World, Calls Tryd.prog 36 #[.agg #[.int .i64 n, .int .i64 r0, .int .i64 r1, .int .i64 r2, .int .i64 r3, .int .i64 r4]] w fun e w' => e = .returned (.int .i64 c) ∧ Below w.heap.size w w') := by
  obtain ⟨c, h1, h2, h3, h4⟩ := checks' n r0 r1 r2 r3 r4
  by_cases hc : c = 0
  · subst hc
    obtain ⟨ha, hb⟩ := h1 rfl
    obtain ⟨k, rfl⟩ := Int.eq_ofNat_of_zero_le (show 0 ≤ n by omega)
    obtain ⟨r, hr, e0, e1, e2, e3, e4⟩ := wf_of (n := k) (by omega) (by omega) (h4 ha hb).symm
    exact .inl ⟨k, r, hr, rfl, e0, e1, e2, e3, e4⟩
  · exact .inr ⟨c, hc, h2, h3⟩
end Go.Proofs.YtlineonmpbdkgaaDoor.Graph
namespace Go.Proofs.YtlineonmpbdkgaaDoor.Graph
open Go Go.RowKit Go.Graph Go.Law
open Go.Proofs.YtlineonmpbdkgaaDoor.Col

theorem and_nat (x y : Nat) (hx : x < 32) (hy : y < 32) : bits BinOp.and IntKind.i64 (x : Int) (y : Int) = ((x &&& y : Nat) : Int) := i64_and_nat x y (by omega) (by omega)
theorem arr_slice (B o : Nat) : ∀ n : Nat, n ≤ 5 → ∀ w : World, (Instr.sliceAt 22 (.pointer (some ⟨B, o, none⟩)) none (some (.int .i64 (n : Int))) none).run Tryd.prog w = .ok (.slice (some ⟨B, o, none⟩) n 5) w
  | 0, _ => fun _ => by kernel_rfl
  | 1, _ => fun _ => by kernel_rfl
  | 2, _ => fun _ => by kernel_rfl
  | 3, _ => fun _ => by kernel_rfl
  | 4, _ => fun _ => by kernel_rfl
  | 5, _ => fun _ => by kernel_rfl
theorem kern_zero (n : Nat) (a : Nat → Nat) : (2 : Int) ^ n - 1 = ((kernTo n a 0 : Nat) : Int) := by
  have h := Nat.pow_pos (a := 2) (n := n) (by omega)
  have e : ((2 ^ n - 1 : Nat) : Int) = ((2 ^ n : Nat) : Int) - 1 := by omega
  show _ = ((2 ^ n - 1 : Nat) : Int)
  rw [e]; push_cast; rfl
end Go.Proofs.YtlineonmpbdkgaaDoor.Graph
namespace Go.Proofs.YtlineonmpbdkgaaDoor.Graph
open Go Go.RowKit Go.Graph Go.Law
open Go.Proofs.YtlineonmpbdkgaaDoor.Col

/-- The cells of a graph. -/
def gl (n : Nat) (r : Nat → Nat) : List Value := [.int .i64 n, .int .i64 (r 0), .int .i64 (r 1), .int .i64 (r 2), .int .i64 (r 3), .int .i64 (r 4)]
theorem own_set6 {w : World} {B : Nat} {t : TypeId} {x0 x1 x2 x3 x4 x5 : Value} (h : Own w B t [x0, x1, x2, x3, x4, x5]) (y0 y1 y2 y3 y4 y5 : Value) :
    Own ((((((w.setCell ⟨B, 0, none⟩ y0).setCell ⟨B, 1, none⟩ y1).setCell ⟨B, 2, none⟩ y2).setCell ⟨B, 3, none⟩ y3).setCell ⟨B, 4, none⟩ y4).setCell ⟨B, 5, none⟩ y5) B t [y0, y1, y2, y3, y4, y5] :=
  (((((h.set 0 y0).set 1 y1).set 2 y2).set 3 y3).set 4 y4).set 5 y5
theorem below_set6 {w w' : World} {B S : Nat} (h : Below S w w') (hB : S ≤ B) (y0 y1 y2 y3 y4 y5 : Value) :
    Below S w ((((((w'.setCell ⟨B, 0, none⟩ y0).setCell ⟨B, 1, none⟩ y1).setCell ⟨B, 2, none⟩ y2).setCell ⟨B, 3, none⟩ y3).setCell ⟨B, 4, none⟩ y4).setCell ⟨B, 5, none⟩ y5) :=
  (((((h.setCell hB y0).setCell hB y1).setCell hB y2).setCell hB y3).setCell hB y4).setCell hB y5
end Go.Proofs.YtlineonmpbdkgaaDoor.Graph
