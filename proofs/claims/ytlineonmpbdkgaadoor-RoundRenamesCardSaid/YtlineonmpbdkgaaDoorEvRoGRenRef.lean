/-
  Graphs with renamed processes: the reference.
-/
import Derived.Test.YtlineonmpbdkgaaDoorEvGRel
import Derived.Test.YtlineonmpbdkgaaDoorEvRoGRefProd
import Derived.Test.YtlineonmpbdkgaaDoorEvRoPermComp
namespace Go.Graph

/-- The processes that the first k all hear. -/
def kernTo (n : Nat) (r : Nat → Nat) : Nat → Nat
  | 0 => 2 ^ n - 1
  | k + 1 => kernTo n r k &&& r k
def kern (n : Nat) (r : Nat → Nat) : Nat := kernTo n r n
theorem kernTo_lt (n : Nat) (r : Nat → Nat) : ∀ k, kernTo n r k < 2 ^ n
  | 0 => by have := Nat.pow_pos (a := 2) (n := n) (by omega); unfold kernTo; omega
  | k + 1 => Nat.lt_of_le_of_lt Nat.and_le_left (kernTo_lt n r k)
/-- The number of the bits of x below k, but for bit p. -/
def cnt (p x : Nat) : Nat → Nat
  | 0 => 0
  | k + 1 => if k ≠ p ∧ x / 2 ^ k % 2 = 1 then cnt p x k + 1 else cnt p x k
theorem cnt_le (p x : Nat) : ∀ k, cnt p x k ≤ k
  | 0 => Nat.le_refl _
  | k + 1 => by have := cnt_le p x k; unfold cnt; split <;> omega
def pc (x : Nat) : Nat := cnt 5 x 5
theorem pc_le (x : Nat) : pc x ≤ 5 := cnt_le 5 x 5
theorem cnt_pc0 : ∀ n < 6, ∀ p < 5, ∀ x < 32, (p < n ∧ x < 2 ^ n ∧ x / 2 ^ p % 2 = 1 → cnt p x n + 1 = pc x) := by decide +kernel
theorem cnt_pc (n : Nat) (hn : n < 6) (p : Nat) (hp : p < 5) (x : Nat) (hx : x < 32) (h1 : p < n) (h2 : x < 2 ^ n) (h3 : x / 2 ^ p % 2 = 1) : cnt p x n + 1 = pc x := cnt_pc0 n hn p hp x hx ⟨h1, h2, h3⟩
def sumPc (r : Nat → Nat) : Nat → Nat
  | 0 => 0
  | k + 1 => sumPc r k + pc (r k)
def sumCnt (n : Nat) (r : Nat → Nat) : Nat → Nat
  | 0 => 0
  | k + 1 => sumCnt n r k + cnt k (r k) n
theorem sumPc_le (r : Nat → Nat) : ∀ k, sumPc r k ≤ 5 * k
  | 0 => Nat.le_refl _
  | k + 1 => by have := sumPc_le r k; have := pc_le (r k); unfold sumPc; omega
theorem sumCnt_le (n : Nat) (r : Nat → Nat) : ∀ k, sumCnt n r k ≤ n * k
  | 0 => Nat.le_refl _
  | k + 1 => by have := sumCnt_le n r k; have := cnt_le k (r k) n; unfold sumCnt; rw [Nat.mul_succ]; omega
theorem sum_low {n : Nat} {r : Nat → Nat} (h : WF n r) : ∀ k, k ≤ n → sumPc r k = sumCnt n r k + k
  | 0, _ => rfl
  | k + 1, hk => by
    have ih := sum_low h k (by omega)
    have h5 := h.top
    have hx : r k < 2 ^ n := h.low k (by omega)
    have hb := h.self k (by omega)
    rw [bit_div] at hb
    have hx32 : r k < 32 := Nat.lt_of_lt_of_le hx (Nat.pow_le_pow_right (by omega) h5)
    have := cnt_pc n (by omega) k (by omega) (r k) hx32 (by omega) hx (by simpa using hb)
    unfold sumPc sumCnt
    omega
theorem sum_high {n : Nat} {r : Nat → Nat} (h : WF n r) : ∀ d, sumPc r (n + d) = sumPc r n
  | 0 => rfl
  | d + 1 => by
    have ih := sum_high h d
    rw [show n + (d + 1) = (n + d) + 1 by omega]
    show sumPc r (n + d) + pc (r (n + d)) = _
    rw [h.out (n + d) (by omega), ih]
    show _ + pc 0 = _
    rw [show pc 0 = 0 by decide]; rfl
theorem sum_all {n : Nat} {r : Nat → Nat} (h : WF n r) : sumPc r 5 = sumCnt n r n + n := by
  have h5 := h.top
  have e := sum_high h (5 - n)
  rw [show n + (5 - n) = 5 by omega] at e
  rw [e]; exact sum_low h n (Nat.le_refl _)
/-- Any two of the first k processes hear a common one. -/
def NoSplit (r : Nat → Nat) (k : Nat) : Prop := ∀ p, p < k → ∀ q, q < p → r p &&& r q ≠ 0
instance (r : Nat → Nat) (k : Nat) : Decidable (NoSplit r k) := by unfold NoSplit; infer_instance
def nsp (r : Nat → Nat) (k : Nat) : Bool := decide (NoSplit r k)
/-- Powers of a graph: k further rounds. -/
def pw (n : Nat) (a : Nat → Nat) : Nat → Nat → Nat
  | 0 => a
  | k + 1 => prod n (pw n a k) a
theorem WF.pw {n : Nat} {a : Nat → Nat} (h : WF n a) : ∀ k, WF n (pw n a k)
  | 0 => h
  | k + 1 => (h.pw k).prod h
/-- All edges of a are edges of b. -/
def Within (a b : Nat → Nat) (k : Nat) : Prop := ∀ p, p < k → a p &&& b p = a p
instance (a b : Nat → Nat) (k : Nat) : Decidable (Within a b k) := by unfold Within; infer_instance
def wthn (a b : Nat → Nat) (k : Nat) : Bool := decide (Within a b k)
theorem within_join {n : Nat} {a b : Nat → Nat} (ha : WF n a) (hb : WF n b) : (∀ i, i < 5 → b i = join a b i) ↔ Within a b n := by
  have key : ∀ i, b i = join a b i ↔ a i &&& b i = a i := by
    intro i
    unfold join
    constructor
    · intro h
      apply Nat.eq_of_testBit_eq
      intro j
      have hj := congrArg (fun x => Nat.testBit x j) h
      simp only [Nat.testBit_or, Nat.testBit_and] at hj ⊢
      revert hj
      cases (a i).testBit j <;> cases (b i).testBit j <;> simp
    · intro h
      apply Nat.eq_of_testBit_eq
      intro j
      have hj := congrArg (fun x => Nat.testBit x j) h
      simp only [Nat.testBit_or, Nat.testBit_and] at hj ⊢
      revert hj
      cases (a i).testBit j <;> cases (b i).testBit j <;> simp
  have h5 := ha.top
  constructor
  · intro h p hp
    exact (key p).1 (h p (by omega))
  · intro h i hi
    by_cases hn : i < n
    · exact (key i).2 (h i hn)
    · rw [hb.out i (by omega)]; unfold join; rw [ha.out i (by omega), hb.out i (by omega)]; rfl
end Go.Graph
namespace Go.Proofs.YtlineonmpbdkgaaDoor.Graph
open Go Go.RowKit Go.Graph Go.Law
open Go.Proofs.YtlineonmpbdkgaaDoor.Col

/-- Five rows, of which the first k are those of g, the others those of r. -/
def mix (g r : Nat → Int) (k : Nat) : List Int := (List.range 5).map fun i => if i < k then g i else r i
theorem mix_length (g r : Nat → Int) (k : Nat) : (mix g r k).length = 5 := by simp [mix]
theorem mix_get (g r : Nat → Int) (k i : Nat) (h : i < 5) : (mix g r k)[i]? = some (if i < k then g i else r i) := by simp [mix, h]
theorem mix_zero (g r : Nat → Int) : mix g r 0 = [r 0, r 1, r 2, r 3, r 4] := rfl
theorem mix_set (g r : Nat → Int) (k : Nat) : (mix g r k).set k (g k) = mix g r (k + 1) := by
  apply List.ext_getElem?
  intro i
  by_cases hi : i < 5
  · rw [mix_get g r (k + 1) i hi]
    by_cases hik : i = k
    · subst hik
      rw [List.getElem?_set_self (by rw [mix_length]; exact hi), if_pos (by omega)]
    · rw [List.getElem?_set_ne (by omega), mix_get g r k i hi]
      by_cases h : i < k
      · rw [if_pos h, if_pos (by omega)]
      · rw [if_neg h, if_neg (by omega)]
  · rw [List.getElem?_eq_none (by rw [List.length_set, mix_length]; omega), List.getElem?_eq_none (by rw [mix_length]; omega)]
theorem mix_cell (n : Int) (g r : Nat → Int) (k : Nat) (h : k < 5) : (Value.int .i64 n :: (mix g r k).map (Value.int .i64))[1 + k]? = some (.int .i64 (r k)) := by
  rw [Nat.add_comm, List.getElem?_cons_succ, List.getElem?_map, mix_get g r k k h, if_neg (by omega)]; rfl
theorem mix_row (n : Int) (g r : Nat → Int) (k : Nat) : (Value.int .i64 n :: (mix g r k).map (Value.int .i64)).set (1 + k) (.int .i64 (g k)) = Value.int .i64 n :: (mix g r (k + 1)).map (Value.int .i64) := by
  rw [Nat.add_comm, List.set_cons_succ, ← List.map_set, mix_set g r k]
theorem mix_all (g r : Nat → Nat) (n : Nat) (h : ∀ i, n ≤ i → r i = g i) : mix (fun i => (g i : Int)) (fun i => (r i : Int)) n = [(g 0 : Int), (g 1 : Int), (g 2 : Int), (g 3 : Int), (g 4 : Int)] := by
  have e : mix (fun i => (g i : Int)) (fun i => (r i : Int)) n = (List.range 5).map fun i => (g i : Int) := by
    unfold mix
    apply List.map_congr_left
    intro i _
    split
    · rfl
    · rename_i hlt; show (r i : Int) = g i; rw [h i (by omega)]
  rw [e]; rfl
end Go.Proofs.YtlineonmpbdkgaaDoor.Graph
namespace Go.Proofs.YtlineonmpbdkgaaDoor.Graph
open Go Go.RowKit Go.Graph Go.Law
open Go.Proofs.YtlineonmpbdkgaaDoor.Col

end Go.Proofs.YtlineonmpbdkgaaDoor.Graph
namespace Go.Proofs.YtlineonmpbdkgaaDoor.Graph
open Go Go.RowKit Go.Graph Go.Law
open Go.Proofs.YtlineonmpbdkgaaDoor.Col

/-- A graph is well-formed, or has an error. -/
theorem wf_or (n r0 r1 r2 r3 r4 : Int) : (∃ (k : Nat) (r : Nat → Nat), WF k r ∧ n = k ∧ r0 = r 0 ∧ r1 = r 1 ∧ r2 = r 2 ∧ r3 = r 3 ∧ r4 = r 4) ∨ ∃ c : Int, c ≠ 0 ∧ (∀ w : World, Calls Tryd.prog 34 #[.agg #[.int .i64 n, .int .i64 r0, .int .i64 r1, .int .i64 r2, .int .i64 r3, .int .i64 r4]] w fun e w' => e = .returned (.int .i64 c) ∧ Below w.heap.size w w') ∧ (∀ w : World, Calls Tryd.prog 36 #[.agg #[.int .i64 n, .int .i64 r0, .int .i64 r1, .int .i64 r2, .int .i64 r3, .int .i64 r4]] w fun e w' => e = .returned (.int .i64 c) ∧ Below w.heap.size w w') := by
  obtain ⟨c, h1, h2, h3, h4⟩ := checks' n r0 r1 r2 r3 r4
  by_cases hc : c = 0
  · subst hc
    obtain ⟨ha, hb⟩ := h1 rfl
    obtain ⟨k, rfl⟩ := Int.eq_ofNat_of_zero_le (show 0 ≤ n by omega)
    obtain ⟨r, hr, e0, e1, e2, e3, e4⟩ := wf_of (n := k) (by omega) (by omega) (h4 ha hb).symm
    exact .inl ⟨k, r, hr, rfl, e0, e1, e2, e3, e4⟩
  · exact .inr ⟨c, hc, h2, h3⟩
end Go.Proofs.YtlineonmpbdkgaaDoor.Graph
namespace Go.Proofs.YtlineonmpbdkgaaDoor.Graph
open Go Go.RowKit Go.Graph Go.Law
open Go.Proofs.YtlineonmpbdkgaaDoor.Col

theorem and_nat (x y : Nat) (hx : x < 32) (hy : y < 32) : bits BinOp.and IntKind.i64 (x : Int) (y : Int) = ((x &&& y : Nat) : Int) := i64_and_nat x y (by omega) (by omega)
theorem arr_slice (B o : Nat) : ∀ n : Nat, n ≤ 5 → ∀ w : World, (Instr.sliceAt 22 (.pointer (some ⟨B, o, none⟩)) none (some (.int .i64 (n : Int))) none).run Tryd.prog w = .ok (.slice (some ⟨B, o, none⟩) n 5) w
  | 0, _ => fun _ => by kernel_rfl
  | 1, _ => fun _ => by kernel_rfl
  | 2, _ => fun _ => by kernel_rfl
  | 3, _ => fun _ => by kernel_rfl
  | 4, _ => fun _ => by kernel_rfl
  | 5, _ => fun _ => by kernel_rfl
theorem kern_zero (n : Nat) (a : Nat → Nat) : (2 : Int) ^ n - 1 = ((kernTo n a 0 : Nat) : Int) := by
  have h := Nat.pow_pos (a := 2) (n := n) (by omega)
  have e : ((2 ^ n - 1 : Nat) : Int) = ((2 ^ n : Nat) : Int) - 1 := by omega
  show _ = ((2 ^ n - 1 : Nat) : Int)
  rw [e]; push_cast; rfl
end Go.Proofs.YtlineonmpbdkgaaDoor.Graph
namespace Go.Proofs.YtlineonmpbdkgaaDoor.Graph
open Go Go.RowKit Go.Graph Go.Law
open Go.Proofs.YtlineonmpbdkgaaDoor.Col

/-- The cells of a graph. -/
def gl (n : Nat) (r : Nat → Nat) : List Value := [.int .i64 n, .int .i64 (r 0), .int .i64 (r 1), .int .i64 (r 2), .int .i64 (r 3), .int .i64 (r 4)]
theorem own_set6 {w : World} {B : Nat} {t : TypeId} {x0 x1 x2 x3 x4 x5 : Value} (h : Own w B t [x0, x1, x2, x3, x4, x5]) (y0 y1 y2 y3 y4 y5 : Value) :
    Own ((((((w.setCell ⟨B, 0, none⟩ y0).setCell ⟨B, 1, none⟩ y1).setCell ⟨B, 2, none⟩ y2).setCell ⟨B, 3, none⟩ y3).setCell ⟨B, 4, none⟩ y4).setCell ⟨B, 5, none⟩ y5) B t [y0, y1, y2, y3, y4, y5] :=
  (((((h.set 0 y0).set 1 y1).set 2 y2).set 3 y3).set 4 y4).set 5 y5
theorem below_set6 {w w' : World} {B S : Nat} (h : Below S w w') (hB : S ≤ B) (y0 y1 y2 y3 y4 y5 : Value) :
    Below S w ((((((w'.setCell ⟨B, 0, none⟩ y0).setCell ⟨B, 1, none⟩ y1).setCell ⟨B, 2, none⟩ y2).setCell ⟨B, 3, none⟩ y3).setCell ⟨B, 4, none⟩ y4).setCell ⟨B, 5, none⟩ y5) :=
  (((((h.setCell hB y0).setCell hB y1).setCell hB y2).setCell hB y3).setCell hB y4).setCell hB y5
end Go.Proofs.YtlineonmpbdkgaaDoor.Graph
namespace Go.Graph

def upd (f : Nat → Nat) (i v : Nat) : Nat → Nat := fun j => if j = i then v else f j
theorem upd_same (f : Nat → Nat) (i v : Nat) : upd f i v i = v := by simp [upd]
theorem upd_far {f : Nat → Nat} {i v j : Nat} (h : j ≠ i) : upd f i v j = f j := by simp [upd, h]
/-- The rows after the first q bits of row p. -/
def accIn (r π : Nat → Nat) (p : Nat) (f : Nat → Nat) : Nat → Nat → Nat
  | 0 => f
  | q + 1 => if r p / 2 ^ q % 2 = 1 then upd (accIn r π p f q) (π p) (accIn r π p f q (π p) ||| 2 ^ π q) else accIn r π p f q
/-- The rows after the first p rows. -/
def accTo (n : Nat) (r π : Nat → Nat) : Nat → Nat → Nat
  | 0 => fun _ => 0
  | p + 1 => accIn r π p (accTo n r π p) n
/-- The renamed graph. -/
def ren (n : Nat) (r π : Nat → Nat) : Nat → Nat := accTo n r π n
theorem accIn_lt {n : Nat} {r π : Nat → Nat} (hπ : ∀ i, i < n → π i < n) {p : Nat} (hp : p < n) {f : Nat → Nat} (hf : ∀ i, f i < 2 ^ n) (h0 : ∀ i, n ≤ i → f i = 0) : ∀ q, q ≤ n → (∀ i, accIn r π p f q i < 2 ^ n) ∧ ∀ i, n ≤ i → accIn r π p f q i = 0
  | 0, _ => ⟨hf, h0⟩
  | q + 1, hq => by
    obtain ⟨h1, h2⟩ := accIn_lt (r := r) hπ hp hf h0 q (by omega)
    unfold accIn
    split
    · refine ⟨fun i => ?_, fun i hi => ?_⟩
      · by_cases e : i = π p
        · subst e; rw [upd_same]; exact Nat.or_lt_two_pow (h1 _) (Nat.pow_lt_pow_right (by omega) (hπ q (by omega)))
        · rw [upd_far e]; exact h1 i
      · have := hπ p hp
        rw [upd_far (by omega)]; exact h2 i hi
    · exact ⟨h1, h2⟩
theorem accTo_lt {n : Nat} {r π : Nat → Nat} (hπ : ∀ i, i < n → π i < n) : ∀ p, p ≤ n → (∀ i, accTo n r π p i < 2 ^ n) ∧ ∀ i, n ≤ i → accTo n r π p i = 0
  | 0, _ => ⟨fun _ => Nat.pow_pos (by omega), fun _ _ => rfl⟩
  | p + 1, hp => by
    obtain ⟨h1, h2⟩ := accTo_lt (r := r) hπ p (by omega)
    exact accIn_lt hπ (by omega) h1 h2 n (Nat.le_refl _)
theorem accIn_bit (r π : Nat → Nat) (p : Nat) (f : Nat → Nat) (i j : Nat) : ∀ q, (accIn r π p f q i).testBit j = true ↔ (f i).testBit j = true ∨ ∃ k, k < q ∧ (r p).testBit k = true ∧ i = π p ∧ j = π k
  | 0 => by simp [accIn]
  | q + 1 => by
    have ih := accIn_bit r π p f i j q
    unfold accIn
    by_cases h : r p / 2 ^ q % 2 = 1
    · have hk : (r p).testBit q = true := by rw [bit_div]; simpa using h
      rw [if_pos h]
      by_cases e : i = π p
      · subst e
        rw [upd_same, Nat.testBit_or, Bool.or_eq_true, ih, Nat.testBit_two_pow]
        constructor
        · rintro ((h1 | ⟨k, hk1, hk2, hk3, hk4⟩) | h1)
          · exact .inl h1
          · exact .inr ⟨k, by omega, hk2, hk3, hk4⟩
          · exact .inr ⟨q, by omega, hk, rfl, by simpa using (of_decide_eq_true h1).symm⟩
        · rintro (h1 | ⟨k, hk1, hk2, hk3, hk4⟩)
          · exact .inl (.inl h1)
          · by_cases ek : k = q
            · subst ek; exact .inr (by simpa using hk4.symm)
            · exact .inl (.inr ⟨k, by omega, hk2, hk3, hk4⟩)
      · rw [upd_far e, ih]
        constructor
        · rintro (h1 | ⟨k, hk1, hk2, hk3, hk4⟩)
          · exact .inl h1
          · exact absurd hk3 e
        · rintro (h1 | ⟨k, hk1, hk2, hk3, hk4⟩)
          · exact .inl h1
          · exact absurd hk3 e
    · have hk : ¬ (r p).testBit q = true := by rw [bit_div]; simpa using h
      rw [if_neg h, ih]
      constructor
      · rintro (h1 | ⟨k, hk1, hk2, hk3, hk4⟩)
        · exact .inl h1
        · exact .inr ⟨k, by omega, hk2, hk3, hk4⟩
      · rintro (h1 | ⟨k, hk1, hk2, hk3, hk4⟩)
        · exact .inl h1
        · by_cases ek : k = q
          · subst ek; exact absurd hk2 hk
          · exact .inr ⟨k, by omega, hk2, hk3, hk4⟩
theorem accTo_bit (n : Nat) (r π : Nat → Nat) (i j : Nat) : ∀ p, (accTo n r π p i).testBit j = true ↔ ∃ x, x < p ∧ ∃ k, k < n ∧ (r x).testBit k = true ∧ i = π x ∧ j = π k
  | 0 => by simp [accTo]
  | p + 1 => by
    have ih := accTo_bit n r π i j p
    show (accIn r π p (accTo n r π p) n i).testBit j = true ↔ _
    rw [accIn_bit, ih]
    constructor
    · rintro (⟨x, hx, h⟩ | h)
      · exact ⟨x, by omega, h⟩
      · exact ⟨p, by omega, h⟩
    · rintro ⟨x, hx, h⟩
      by_cases e : x = p
      · subst e; exact .inr h
      · exact .inl ⟨x, by omega, h⟩
theorem ren_bit (n : Nat) (r π : Nat → Nat) (i j : Nat) : (ren n r π i).testBit j = true ↔ ∃ x, x < n ∧ ∃ k, k < n ∧ (r x).testBit k = true ∧ i = π x ∧ j = π k := accTo_bit n r π i j n
/-- Five rows. -/
def rowsL (f : Nat → Nat) : List Int := (List.range 5).map fun i => (f i : Int)
theorem rowsL_get (f : Nat → Nat) (i : Nat) (h : i < 5) : (rowsL f)[i]? = some (f i : Int) := by simp [rowsL, h]
theorem rowsL_set (f : Nat → Nat) (i v : Nat) : (rowsL f).set i (v : Int) = rowsL (upd f i v) := by
  apply List.ext_getElem?
  intro j
  by_cases hj : j < 5
  · rw [rowsL_get _ j hj]
    by_cases e : j = i
    · subst e; rw [List.getElem?_set_self (by simp [rowsL]; exact hj), upd_same]
    · rw [List.getElem?_set_ne (by omega), rowsL_get _ j hj, upd_far e]
  · rw [List.getElem?_eq_none (by simp [rowsL]; omega), List.getElem?_eq_none (by simp [rowsL]; omega)]
end Go.Graph
namespace Go.Proofs.YtlineonmpbdkgaaDoor.Graph
open Go Go.RowKit Go.Graph Go.Law
open Go.Proofs.YtlineonmpbdkgaaDoor.Col

open Go.Proofs.YtlineonmpbdkgaaDoor.Perm (Quiet check_ints rcheck_ints)
theorem rowsL_cell (n : Int) (f : Nat → Nat) (i : Nat) (h : i < 5) : (Value.int .i64 n :: (rowsL f).map (Value.int .i64))[1 + i]? = some (.int .i64 (f i)) := by
  rw [Nat.add_comm, List.getElem?_cons_succ, List.getElem?_map, rowsL_get f i h]; rfl
theorem rowsL_put (n : Int) (f : Nat → Nat) (i v : Nat) : (Value.int .i64 n :: (rowsL f).map (Value.int .i64)).set (1 + i) (.int .i64 (v : Int)) = Value.int .i64 n :: (rowsL (upd f i v)).map (Value.int .i64) := by
  rw [Nat.add_comm, List.set_cons_succ, ← List.map_set, rowsL_set]
theorem rowsL_five (f : Nat → Nat) : rowsL f = [(f 0 : Int), (f 1 : Int), (f 2 : Int), (f 3 : Int), (f 4 : Int)] := rfl
/-- What a permutation of processes does. -/
def idx (zs : List Int) (i : Nat) : Nat := (zs.getD i 0).toNat
theorem idx_lt {zs : List Int} (h : Go.Perm.check zs = 0) (i : Nat) (hi : i < zs.length) : idx zs i < zs.length ∧ zs.getD i 0 = (idx zs i : Nat) := by
  obtain ⟨_, _, h3, _⟩ := Go.Perm.check_ok h
  have := h3 _ (Go.Perm.getD_mem hi)
  unfold idx
  omega
theorem acc_lt32 {n : Nat} {r π : Nat → Nat} (hπ : ∀ i, i < n → π i < n) (h5 : n ≤ 5) (p : Nat) (hp : p < n) (m : Nat) (hm : m ≤ n) (i : Nat) : accIn r π p (accTo n r π p) m i < 32 :=
  Nat.lt_of_lt_of_le ((accIn_lt (r := r) hπ hp (accTo_lt hπ p (by omega)).1 (accTo_lt hπ p (by omega)).2 m hm).1 i) (pow_le32 h5)
theorem or_pow (y q : Nat) (hy : y < 32) (hq : q < 5) : bits BinOp.or IntKind.i64 (y : Int) (wrap64 (2 ^ q)) = ((y ||| 2 ^ q : Nat) : Int) := by
  rw [wrap_pow q hq, or_nat _ _ hy (Nat.lt_of_lt_of_le (Nat.pow_lt_pow_right (by omega) hq) (by decide))]
set_option maxRecDepth 100000 in
set_option maxHeartbeats 4000000 in
theorem renamed_wf {n : Nat} {a : Nat → Nat} (ha : WF n a) (b off cap : Nat) (zs : List Int) (hz : zs.length = n) (hok : Go.Perm.check zs = 0) (hcap : n ≤ cap) (w : World) (hb : b < w.heap.size) (hc : At w b off zs) :
    Calls Tryd.prog 69 #[.agg #[.int .i64 n, .int .i64 (a 0), .int .i64 (a 1), .int .i64 (a 2), .int .i64 (a 3), .int .i64 (a 4)], .slice (some ⟨b, off, none⟩) n cap] w fun e w' => e = .returned (.agg #[.int .i64 n, .int .i64 (ren n a (idx zs) 0 : Nat), .int .i64 (ren n a (idx zs) 1 : Nat), .int .i64 (ren n a (idx zs) 2 : Nat), .int .i64 (ren n a (idx zs) 3 : Nat), .int .i64 (ren n a (idx zs) 4 : Nat)]) ∧ Below w.heap.size w w' := by
  unfold ren
  have h5 := ha.top
  have hpre := ha.pos
  have LA := Lib.hid ha.lt32
  have HL := Lib.hid hz
  have HI := Lib.hid (fun i (hi : i < n) => (by have := idx_lt hok i (by omega); rw [hz] at this; exact this : idx zs i < n ∧ zs.getD i 0 = (idx zs i : Nat)))
  have hlow : ∀ i, i < n → idx zs i < n := fun i hi => (HI.out i hi).1
  have HACC := Lib.hid (acc_lt32 (r := a) hlow h5)
  clear hlow
  have HZ1 := Lib.hid (((hc.below (below_alloc w (.cells #[.int .i64 n, .int .i64 (a 0), .int .i64 (a 1), .int .i64 (a 2), .int .i64 (a 3), .int .i64 (a 4)] 24)) hb).below ((Below.refl _ _).alloc (Nat.le_refl _) (.cells #[.int .i64 0, .int .i64 0, .int .i64 0, .int .i64 0, .int .i64 0, .int .i64 0] 24)) (by rw [size_alloc]; omega)).below ((Below.refl _ _).alloc (Nat.le_refl _) (.cells #[.int .i64 n, .int .i64 0, .int .i64 0, .int .i64 0, .int .i64 0, .int .i64 0] 24)) (by rw [size_alloc, size_alloc]; omega))
  clear ha hc
  have T1 := Lib.hid (((below_alloc w (.cells #[.int .i64 n, .int .i64 (a 0), .int .i64 (a 1), .int .i64 (a 2), .int .i64 (a 3), .int .i64 (a 4)] 24)).alloc (by rw [size_alloc]; omega) (.cells #[.int .i64 0, .int .i64 0, .int .i64 0, .int .i64 0, .int .i64 0, .int .i64 0] 24)).alloc (by rw [size_alloc, size_alloc]; omega) (.cells #[.int .i64 n, .int .i64 0, .int .i64 0, .int .i64 0, .int .i64 0, .int .i64 0] 24))
  have RA1 := Lib.hid (row_alloc (row_alloc (row_new w n (a 0) (a 1) (a 2) (a 3) (a 4)) (.cells #[.int .i64 0, .int .i64 0, .int .i64 0, .int .i64 0, .int .i64 0, .int .i64 0] 24)) (.cells #[.int .i64 n, .int .i64 0, .int .i64 0, .int .i64 0, .int .i64 0, .int .i64 0] 24))
  have RO1 := Lib.hid ((own_new (w.alloc (.cells #[.int .i64 n, .int .i64 (a 0), .int .i64 (a 1), .int .i64 (a 2), .int .i64 (a 3), .int .i64 (a 4)] 24)) [.int .i64 0, .int .i64 0, .int .i64 0, .int .i64 0, .int .i64 0, .int .i64 0] 24).alloc (.cells #[.int .i64 n, .int .i64 0, .int .i64 0, .int .i64 0, .int .i64 0, .int .i64 0] 24))
  have RG := Lib.hid (own_new ((w.alloc (.cells #[.int .i64 n, .int .i64 (a 0), .int .i64 (a 1), .int .i64 (a 2), .int .i64 (a 3), .int .i64 (a 4)] 24)).alloc (.cells #[.int .i64 0, .int .i64 0, .int .i64 0, .int .i64 0, .int .i64 0, .int .i64 0] 24)) [.int .i64 n, .int .i64 0, .int .i64 0, .int .i64 0, .int .i64 0, .int .i64 0] 24)
  rw [size_alloc] at RO1
  rw [size_alloc, size_alloc] at RG
  go_enter Tryd.func69, Tryd.ntmps69
  go_wp2
  have hn0 := RA1.out.1
  generalize World.alloc (World.alloc (World.alloc w _) _) _ = W4 at *
  have g0 : w.heap.size < w.heap.size + 1 + 1 := by omega
  have g1 : w.heap.size + 1 < w.heap.size + 1 + 1 := by omega
  have g2 : b < w.heap.size + 1 + 1 := by omega
  have g3 : w.heap.size ≤ w.heap.size + 1 + 1 := by omega
  generalize hG : w.heap.size + 1 + 1 = G at *
  clear hG
  go_loopw [6] (fun i wr => ∃ p : Nat, p ≤ n ∧ i = .int .i64 p ∧ Below G W4 wr ∧ Own wr G 24 (.int .i64 n :: (rowsL (accTo n a (idx zs) p)).map (Value.int .i64))) (fun i _ => n - (intOf i).toNat)
  case atStart => exact ⟨0, Nat.zero_le _, rfl, Below.refl _ _, RG.out⟩
  case round =>
    obtain ⟨p, hp, rfl, hbl, hown⟩ := hrel
    have HBL := Lib.hid hbl
    have HOWN := Lib.hid hown
    clear hbl hown hn0
    have hna := (row_bel RA1.out HBL.out (by omega)).1
    by_cases hlt : p < n
    · obtain ⟨hpp, hpv⟩ := HI.out p hlt
      have HPV := Lib.hid hpv
      clear hpv
      go_wp2
      go_loopw [7] (fun j wr => ∃ m : Nat, m ≤ n ∧ j = .int .i64 m ∧ Below G W4 wr ∧ Own wr G 24 (.int .i64 n :: (rowsL (accIn a (idx zs) p (accTo n a (idx zs) p) m)).map (Value.int .i64))) (fun j _ => n - (intOf j).toNat)
      case atStart => exact ⟨0, Nat.zero_le _, rfl, HBL.out, HOWN.out⟩
      case round =>
        obtain ⟨m, hm, rfl, hbl, hown⟩ := hrel
        have HBL := Lib.hid hbl
        have HOWN := Lib.hid hown
        clear hbl hown hna
        have hna := (row_bel RA1.out HBL.out (by omega)).1
        by_cases hlt2 : m < n
        · obtain ⟨hmm, hmv⟩ := HI.out m hlt2
          have HMV := Lib.hid hmv
          clear hmv
          have hcp : wr.cell? ⟨b, off + p, none⟩ = some (.int .i64 (idx zs p : Nat)) := by rw [← HPV.out]; exact (HZ1.out.below HBL.out (by omega)) p (by have := HL.out; omega)
          have hcq : wr.cell? ⟨b, off + m, none⟩ = some (.int .i64 (idx zs m : Nat)) := by rw [← HMV.out]; exact (HZ1.out.below HBL.out (by omega)) m (by have := HL.out; omega)
          have hcg := HOWN.out.cell (rowsL_cell n (accIn a (idx zs) p (accTo n a (idx zs) p) m) (idx zs p) (by omega))
          have hfr := HOWN.out.free (1 + idx zs p)
          have hx := (HACC.out p hlt m hm) (idx zs p)
          have hca := row_wf (row_bel RA1.out HBL.out (by omega)) p (by omega)
          have hl := LA.out p
          have HU := Lib.hid (show accIn a (idx zs) p (accTo n a (idx zs) p) (m + 1) = if a p / 2 ^ m % 2 = 1 then upd (accIn a (idx zs) p (accTo n a (idx zs) p) m) (idx zs p) (accIn a (idx zs) p (accTo n a (idx zs) p) m (idx zs p) ||| 2 ^ idx zs m) else accIn a (idx zs) p (accTo n a (idx zs) p) m from rfl)
          have HOR := Lib.hid (or_pow _ (idx zs m) hx (by omega))
          have HP := Lib.hid (fun v => rowsL_put n (accIn a (idx zs) p (accTo n a (idx zs) p) m) (idx zs p) v)
          generalize accIn a (idx zs) p (accTo n a (idx zs) p) m (idx zs p) = x at *
          have i0 : (0 : Int) ≤ (idx zs p : Nat) := Int.natCast_nonneg _
          have i1 : ((idx zs p : Nat) : Int) < 5 := by omega
          have i2 : (0 : Int) ≤ (idx zs m : Nat) := Int.natCast_nonneg _
          have i3 : ((idx zs m : Nat) : Int) < 5 := by omega
          have i4 : (p : Int) < n := by omega
          have i5 : (m : Int) < n := by omega
          generalize idx zs p = ip at *
          generalize idx zs m = iq at *
          by_cases hbit : a p / 2 ^ m % 2 = 1
          · have HBIT := Lib.hid hbit
            have HX := Lib.hid (show (a p / 2 ^ m % 2 == 1) = true by simp [hbit])
            clear hbit
            go_wp2_with (go_at_call 62; refine (has_any (a p) m hl (by omega) _).mono ?_; rintro e w' ⟨rfl, rfl⟩; rw [HX.out])
            go_region
            go_wp2
            exact ⟨⟨m + 1, by omega, by go_num, (HBL.out.setCell (Nat.le_refl _) _).drew, by rw [HU.out, if_pos HBIT.out, ← HP.out, ← HOR.out]; exact (HOWN.out.set (1 + ip) _).drew⟩, by simp [intOf]; omega⟩
          · have HBIT := Lib.hid hbit
            have HX := Lib.hid (show (a p / 2 ^ m % 2 == 1) = false by simp [hbit])
            clear hbit
            go_wp2_with (go_at_call 62; refine (has_any (a p) m hl (by omega) _).mono ?_; rintro e w' ⟨rfl, rfl⟩; rw [HX.out])
            exact ⟨⟨m + 1, by omega, by go_num, HBL.out, by rw [HU.out, if_neg HBIT.out]; exact HOWN.out⟩, by simp [intOf]; omega⟩
        · have hk' : m = n := by omega
          subst hk'
          go_wp2
          exact ⟨⟨p + 1, by omega, by go_num, HBL.out, HOWN.out⟩, by simp [intOf]; omega⟩
    · have hk' : p = n := by omega
      subst hk'
      rw [rowsL_five] at HOWN
      have c0 := HOWN.out.cell (j := 0) (v := .int .i64 p) rfl
      have c1 := HOWN.out.cell (j := 1) (v := .int .i64 (accTo p a (idx zs) p 0 : Nat)) rfl
      have c2 := HOWN.out.cell (j := 2) (v := .int .i64 (accTo p a (idx zs) p 1 : Nat)) rfl
      have c3 := HOWN.out.cell (j := 3) (v := .int .i64 (accTo p a (idx zs) p 2 : Nat)) rfl
      have c4 := HOWN.out.cell (j := 4) (v := .int .i64 (accTo p a (idx zs) p 3 : Nat)) rfl
      have c5 := HOWN.out.cell (j := 5) (v := .int .i64 (accTo p a (idx zs) p 4 : Nat)) rfl
      have HRES := Lib.hid (RO1.out.below HBL.out (by omega))
      have d0 := HRES.out.cell (j := 0) (v := .int .i64 0) rfl
      have d1 := HRES.out.cell (j := 1) (v := .int .i64 0) rfl
      have d2 := HRES.out.cell (j := 2) (v := .int .i64 0) rfl
      have d3 := HRES.out.cell (j := 3) (v := .int .i64 0) rfl
      have d4 := HRES.out.cell (j := 4) (v := .int .i64 0) rfl
      have d5 := HRES.out.cell (j := 5) (v := .int .i64 0) rfl
      have z0 := HRES.out.free 0
      have z1 := HRES.out.free 1
      have z2 := HRES.out.free 2
      have z3 := HRES.out.free 3
      have z4 := HRES.out.free 4
      have z5 := HRES.out.free 5
      go_wp2
      (try simp only [Exit.inBlock, Exit.then])
      refine bodyPost_ret (v := .agg #[.int .i64 p, .int .i64 (accTo p a (idx zs) p 0 : Nat), .int .i64 (accTo p a (idx zs) p 1 : Nat), .int .i64 (accTo p a (idx zs) p 2 : Nat), .int .i64 (accTo p a (idx zs) p 3 : Nat), .int .i64 (accTo p a (idx zs) p 4 : Nat)]) (by simp [results, Tryd.results69, go_sem, d0, d1, d2, d3, d4, d5]) rfl ⟨rfl, below_set6 (T1.out.trans (bel_lg HBL.out g3)) (by show w.heap.size ≤ w.heap.size + 1; omega) _ _ _ _ _ _⟩
end Go.Proofs.YtlineonmpbdkgaaDoor.Graph
