/-
  Products of graphs: the reference's.
-/
import Derived.Test.YtajhejdeijhccaaDoorEvGCheck
import Derived.Test.YtajhejdeijhccaaDoorEvGCompose
import Derived.RegionTactic
namespace Go.Graph

/-- A well-formed graph of n processes: row i is the set of the processes that i hears. -/
structure WF (n : Nat) (r : Nat → Nat) : Prop where
  pos : 1 ≤ n
  top : n ≤ 5
  low : ∀ i, i < n → r i < 2 ^ n
  self : ∀ i, i < n → (r i).testBit i = true
  out : ∀ i, n ≤ i → r i = 0

/-- The union of the rows of R that the bits of q below k name. -/
def uni (R : Nat → Nat) (q : Nat) : Nat → Nat
  | 0 => 0
  | k + 1 => if q / 2 ^ k % 2 = 1 then uni R q k ||| R k else uni R q k
theorem bit_div (q k : Nat) : q.testBit k = decide (q / 2 ^ k % 2 = 1) := by
  rw [Nat.testBit_eq_decide_div_mod_eq]
theorem uni_bit (R : Nat → Nat) (q j : Nat) : ∀ k, (uni R q k).testBit j = true ↔ ∃ m, m < k ∧ q.testBit m = true ∧ (R m).testBit j = true
  | 0 => by simp [uni]
  | k + 1 => by
    have ih := uni_bit R q j k
    unfold uni
    by_cases h : q / 2 ^ k % 2 = 1
    · have hk : q.testBit k = true := by rw [bit_div]; simpa using h
      rw [if_pos h, Nat.testBit_or, Bool.or_eq_true, ih]
      constructor
      · rintro (⟨m, hm, h1, h2⟩ | h2)
        · exact ⟨m, by omega, h1, h2⟩
        · exact ⟨k, by omega, hk, h2⟩
      · rintro ⟨m, hm, h1, h2⟩
        by_cases e : m = k
        · subst e; exact .inr h2
        · exact .inl ⟨m, by omega, h1, h2⟩
    · have hk : ¬ q.testBit k = true := by rw [bit_div]; simpa using h
      rw [if_neg h, ih]
      constructor
      · rintro ⟨m, hm, h1, h2⟩; exact ⟨m, by omega, h1, h2⟩
      · rintro ⟨m, hm, h1, h2⟩
        by_cases e : m = k
        · subst e; exact absurd h1 hk
        · exact ⟨m, by omega, h1, h2⟩
theorem uni_lt {R : Nat → Nat} {n : Nat} (h : ∀ i, i < n → R i < 2 ^ n) (q : Nat) : ∀ k, k ≤ n → uni R q k < 2 ^ n
  | 0, _ => Nat.pow_pos (by omega)
  | k + 1, hk => by
    have ih := uni_lt h q k (by omega)
    unfold uni
    split
    · exact Nat.or_lt_two_pow ih (h k (by omega))
    · exact ih
/-- The product of two graphs. -/
def prod (n : Nat) (a b : Nat → Nat) (i : Nat) : Nat := if i < n then uni a (b i) n else 0
/-- The union of two graphs. -/
def join (a b : Nat → Nat) (i : Nat) : Nat := a i ||| b i
/-- The graph without edges. -/
def sil (n : Nat) (i : Nat) : Nat := if i < n then 2 ^ i else 0
/-- The set of the q below k for which p holds. -/
def setOf (p : Nat → Bool) : Nat → Nat
  | 0 => 0
  | k + 1 => if p k then setOf p k ||| 2 ^ k else setOf p k
theorem setOf_bit (p : Nat → Bool) (j : Nat) : ∀ k, (setOf p k).testBit j = (decide (j < k) && p j)
  | 0 => by simp [setOf]
  | k + 1 => by
    have ih := setOf_bit p j k
    unfold setOf
    split
    · rename_i h
      rw [Nat.testBit_or, ih, Nat.testBit_two_pow]
      by_cases e : k = j
      · subst e; simp [h]
      · have : decide (j < k + 1) = decide (j < k) := by rw [decide_eq_decide]; omega
        simp [this, e]
    · rename_i h
      rw [ih]
      by_cases e : k = j
      · subst e; simp [h]
      · have : decide (j < k + 1) = decide (j < k) := by rw [decide_eq_decide]; omega
        simp [this]
theorem setOf_lt (p : Nat → Bool) (n : Nat) : ∀ k, k ≤ n → setOf p k < 2 ^ n
  | 0, _ => Nat.pow_pos (by omega)
  | k + 1, hk => by
    have ih := setOf_lt p n k (by omega)
    unfold setOf
    split
    · exact Nat.or_lt_two_pow ih (Nat.pow_lt_pow_right (by omega) (by omega))
    · exact ih
/-- The reversed graph. -/
def rev (n : Nat) (a : Nat → Nat) (i : Nat) : Nat := if i < n then setOf (fun q => (a q).testBit i) n else 0

theorem lt_bit {x n j : Nat} (h : x < 2 ^ n) (hj : x.testBit j = true) : j < n := by
  by_cases hn : j < n
  · exact hn
  · rw [Nat.testBit_lt_two_pow (Nat.lt_of_lt_of_le h (Nat.pow_le_pow_right (by omega) (by omega)))] at hj; cases hj
theorem WF.bit_lt {n : Nat} {r : Nat → Nat} (h : WF n r) {i j : Nat} (hj : (r i).testBit j = true) : i < n ∧ j < n := by
  by_cases hi : i < n
  · exact ⟨hi, lt_bit (h.low i hi) hj⟩
  · rw [h.out i (by omega)] at hj; simp at hj
theorem rows_eq {a b : Nat → Nat} (h : ∀ i j, (a i).testBit j = true ↔ (b i).testBit j = true) : a = b := by
  funext i
  apply Nat.eq_of_testBit_eq
  intro j
  rw [Bool.eq_iff_iff]
  exact h i j
theorem prod_bit (n : Nat) (a b : Nat → Nat) (i j : Nat) : (prod n a b i).testBit j = true ↔ i < n ∧ ∃ m, m < n ∧ (b i).testBit m = true ∧ (a m).testBit j = true := by
  unfold prod
  split
  · rename_i h
    rw [uni_bit]
    exact ⟨fun x => ⟨h, x⟩, fun x => x.2⟩
  · rename_i h
    simp [h]
theorem rev_bit (n : Nat) (a : Nat → Nat) (i j : Nat) : (rev n a i).testBit j = true ↔ i < n ∧ j < n ∧ (a j).testBit i = true := by
  unfold rev
  split
  · rename_i h
    rw [setOf_bit]
    simp [h]
  · rename_i h
    simp [h]
theorem sil_bit (n i j : Nat) : (sil n i).testBit j = true ↔ i < n ∧ i = j := by
  unfold sil
  split
  · rename_i h
    rw [Nat.testBit_two_pow]; simp [h]
  · rename_i h
    simp [h]
theorem join_bit (a b : Nat → Nat) (i j : Nat) : (join a b i).testBit j = true ↔ (a i).testBit j = true ∨ (b i).testBit j = true := by
  unfold join
  rw [Nat.testBit_or, Bool.or_eq_true]

theorem WF.prod {n : Nat} {a b : Nat → Nat} (ha : WF n a) (hb : WF n b) : WF n (prod n a b) where
  pos := ha.pos
  top := ha.top
  low i hi := by unfold Go.Graph.prod; rw [if_pos hi]; exact uni_lt ha.low _ n (Nat.le_refl _)
  self i hi := by rw [prod_bit]; exact ⟨hi, i, hi, hb.self i hi, ha.self i hi⟩
  out i hi := by unfold Go.Graph.prod; rw [if_neg (by omega)]
theorem WF.join {n : Nat} {a b : Nat → Nat} (ha : WF n a) (hb : WF n b) : WF n (join a b) where
  pos := ha.pos
  top := ha.top
  low i hi := Nat.or_lt_two_pow (ha.low i hi) (hb.low i hi)
  self i hi := by rw [join_bit]; exact .inl (ha.self i hi)
  out i hi := by unfold Go.Graph.join; rw [ha.out i hi, hb.out i hi]; rfl
theorem WF.rev {n : Nat} {a : Nat → Nat} (ha : WF n a) : WF n (rev n a) where
  pos := ha.pos
  top := ha.top
  low i hi := by unfold Go.Graph.rev; rw [if_pos hi]; exact setOf_lt _ n n (Nat.le_refl _)
  self i hi := by rw [rev_bit]; exact ⟨hi, hi, ha.self i hi⟩
  out i hi := by unfold Go.Graph.rev; rw [if_neg (by omega)]
theorem WF.sil {n : Nat} (h1 : 1 ≤ n) (h5 : n ≤ 5) : WF n (sil n) where
  pos := h1
  top := h5
  low i hi := by unfold Go.Graph.sil; rw [if_pos hi]; exact Nat.pow_lt_pow_right (by omega) hi
  self i hi := by rw [sil_bit]; exact ⟨hi, rfl⟩
  out i hi := by unfold Go.Graph.sil; rw [if_neg (by omega)]

theorem prod_assoc (n : Nat) (a b c : Nat → Nat) : prod n (prod n a b) c = prod n a (prod n b c) := by
  apply rows_eq
  intro i j
  simp only [prod_bit]
  constructor
  · rintro ⟨hi, m, hm, h1, _, l, hl, h2, h3⟩
    exact ⟨hi, l, hl, ⟨hi, m, hm, h1, h2⟩, h3⟩
  · rintro ⟨hi, l, hl, ⟨_, m, hm, h1, h2⟩, h3⟩
    exact ⟨hi, m, hm, h1, hm, l, hl, h2, h3⟩
theorem prod_join (n : Nat) (a b c : Nat → Nat) : prod n a (join b c) = join (prod n a b) (prod n a c) := by
  apply rows_eq
  intro i j
  simp only [prod_bit, join_bit]
  constructor
  · rintro ⟨hi, m, hm, h1 | h1, h2⟩
    · exact .inl ⟨hi, m, hm, h1, h2⟩
    · exact .inr ⟨hi, m, hm, h1, h2⟩
  · rintro (⟨hi, m, hm, h1, h2⟩ | ⟨hi, m, hm, h1, h2⟩)
    · exact ⟨hi, m, hm, .inl h1, h2⟩
    · exact ⟨hi, m, hm, .inr h1, h2⟩
theorem join_prod (n : Nat) (a b c : Nat → Nat) : prod n (join b c) a = join (prod n b a) (prod n c a) := by
  apply rows_eq
  intro i j
  simp only [prod_bit, join_bit]
  constructor
  · rintro ⟨hi, m, hm, h1, h2 | h2⟩
    · exact .inl ⟨hi, m, hm, h1, h2⟩
    · exact .inr ⟨hi, m, hm, h1, h2⟩
  · rintro (⟨hi, m, hm, h1, h2⟩ | ⟨hi, m, hm, h1, h2⟩)
    · exact ⟨hi, m, hm, h1, .inl h2⟩
    · exact ⟨hi, m, hm, h1, .inr h2⟩
theorem prod_sil {n : Nat} {a : Nat → Nat} (ha : WF n a) : prod n a (sil n) = a := by
  apply rows_eq
  intro i j
  simp only [prod_bit, sil_bit]
  constructor
  · rintro ⟨hi, m, hm, ⟨_, rfl⟩, h2⟩; exact h2
  · intro h
    have := (ha.bit_lt h).1
    exact ⟨this, i, this, ⟨this, rfl⟩, h⟩
theorem sil_prod {n : Nat} {a : Nat → Nat} (ha : WF n a) : prod n (sil n) a = a := by
  apply rows_eq
  intro i j
  simp only [prod_bit, sil_bit]
  constructor
  · rintro ⟨hi, m, hm, h1, _, rfl⟩; exact h1
  · intro h
    have := ha.bit_lt h
    exact ⟨this.1, j, this.2, h, this.2, rfl⟩
theorem rev_rev {n : Nat} {a : Nat → Nat} (ha : WF n a) : rev n (rev n a) = a := by
  apply rows_eq
  intro i j
  simp only [rev_bit]
  constructor
  · rintro ⟨_, _, _, _, h⟩; exact h
  · intro h
    have := ha.bit_lt h
    exact ⟨this.1, this.2, this.2, this.1, h⟩
theorem rev_prod (n : Nat) (a b : Nat → Nat) : rev n (prod n a b) = prod n (rev n b) (rev n a) := by
  apply rows_eq
  intro i j
  simp only [rev_bit, prod_bit]
  constructor
  · rintro ⟨hi, hj, _, m, hm, h1, h2⟩; exact ⟨hi, m, hm, ⟨hi, hm, h2⟩, hm, hj, h1⟩
  · rintro ⟨hi, m, hm, ⟨_, _, h1⟩, _, hj, h2⟩; exact ⟨hi, hj, hj, m, hm, h2, h1⟩

theorem rows_far_zero {n k : Nat} {x : Int} {xs : List Int} (h : n ≤ k) (hr : rows n k (x :: xs) = 0) : x = 0 ∧ rows n (k + 1) xs = 0 := by
  rw [rows, if_pos h] at hr
  split at hr
  · cases hr
  · rename_i hx; exact ⟨by omega, hr⟩
theorem rows_near {n k : Nat} {x : Int} {xs : List Int} (h : k < n) (hr : rows n k (x :: xs) = 0) : 0 ≤ x ∧ x.toNat < 2 ^ n ∧ x.toNat.testBit k = true ∧ rows n (k + 1) xs = 0 := by
  rw [rows, if_neg (by omega)] at hr
  split at hr
  · cases hr
  · rename_i hx
    split at hr
    · cases hr
    · rename_i hb
      refine ⟨by omega, by omega, ?_, hr⟩
      rw [bit_div]; simp; omega
theorem rows_wf : ∀ (n : Nat) (xs : List Int) (k : Nat), rows n k xs = 0 → ∀ i, i < xs.length → (k + i < n → 0 ≤ xs.getD i 0 ∧ (xs.getD i 0).toNat < 2 ^ n ∧ (xs.getD i 0).toNat.testBit (k + i) = true) ∧ (n ≤ k + i → xs.getD i 0 = 0)
  | _, [], _, _, i, hi => by simp at hi
  | n, x :: xs, k, hr, i, hi => by
    have hrest : rows n (k + 1) xs = 0 := by
      by_cases h : n ≤ k
      · exact (rows_far_zero h hr).2
      · exact (rows_near (by omega) hr).2.2.2
    cases i with
    | zero =>
      constructor
      · intro h
        have := rows_near (by omega) hr
        exact ⟨this.1, this.2.1, this.2.2.1⟩
      · intro h; exact (rows_far_zero (by omega) hr).1
    | succ i =>
      have := rows_wf n xs (k + 1) hrest i (by simpa using hi)
      rw [show k + 1 + i = k + (i + 1) by omega] at this
      simpa using this
/-- A graph without an error is well-formed. -/
theorem wf_of {n : Nat} (h1 : 1 ≤ n) (h5 : n ≤ 5) {r0 r1 r2 r3 r4 : Int} (h : rows n 0 [r0, r1, r2, r3, r4] = 0) :
    ∃ r : Nat → Nat, WF n r ∧ r0 = r 0 ∧ r1 = r 1 ∧ r2 = r 2 ∧ r3 = r 3 ∧ r4 = r 4 := by
  have hw := rows_wf n _ 0 h
  simp only [Nat.zero_add] at hw
  have hnn : ∀ i, i < 5 → 0 ≤ [r0, r1, r2, r3, r4].getD i 0 := by
    intro i hi
    by_cases hn : i < n
    · exact ((hw i (by simpa using hi)).1 hn).1
    · rw [(hw i (by simpa using hi)).2 (by omega)]; omega
  refine ⟨fun i => ([r0, r1, r2, r3, r4].getD i 0).toNat, ⟨h1, h5, ?_, ?_, ?_⟩, ?_, ?_, ?_, ?_, ?_⟩
  · intro i hi; exact ((hw i (by simp; omega)).1 hi).2.1
  · intro i hi; exact ((hw i (by simp; omega)).1 hi).2.2
  · intro i hi
    by_cases h : i < 5
    · show ([r0, r1, r2, r3, r4].getD i 0).toNat = 0
      rw [(hw i (by simpa using h)).2 hi]; rfl
    · show ([r0, r1, r2, r3, r4].getD i 0).toNat = 0
      rw [List.getD_eq_getElem?_getD, List.getElem?_eq_none (by simp; omega)]; rfl
  · have := hnn 0 (by omega); simp at this ⊢; omega
  · have := hnn 1 (by omega); simp at this ⊢; omega
  · have := hnn 2 (by omega); simp at this ⊢; omega
  · have := hnn 3 (by omega); simp at this ⊢; omega
  · have := hnn 4 (by omega); simp at this ⊢; omega
end Go.Graph
namespace Go.Proofs.YtajhejdeijhccaaDoor.Graph
open Go Go.RowKit Go.Graph Go.Law
open Go.Proofs.YtajhejdeijhccaaDoor.Col

theorem made_nat (g : Nat → Int) (h : Nat → Nat) (n : Nat) (hg : ∀ i, i < n → i < 5 → g i = (h i : Int)) (h0 : ∀ i, n ≤ i → h i = 0) :
    made g n = [(h 0 : Int), (h 1 : Int), (h 2 : Int), (h 3 : Int), (h 4 : Int)] := by
  have e : made g n = (List.range 5).map fun i => (h i : Int) := by
    unfold made
    apply List.map_congr_left
    intro i hi
    rw [List.mem_range] at hi
    split
    · rename_i hlt; exact hg i hlt hi
    · rename_i hlt; rw [h0 i (by omega)]; rfl
  rw [e]; rfl
theorem or_nat (x y : Nat) (hx : x < 32) (hy : y < 32) : bits BinOp.or IntKind.i64 (x : Int) (y : Int) = ((x ||| y : Nat) : Int) := i64_or_nat x y (by omega) (by omega)
theorem _root_.Go.Graph.WF.lt32 {n : Nat} {r : Nat → Nat} (h : WF n r) (i : Nat) : r i < 32 := by
  by_cases hi : i < n
  · exact Nat.lt_of_lt_of_le (h.low i hi) (pow_le32 h.top)
  · rw [h.out i (by omega)]; omega
theorem getD5 (f : Nat → Int) : ∀ i, i < 5 → [f 0, f 1, f 2, f 3, f 4].getD i 0 = f i
  | 0, _ => rfl
  | 1, _ => rfl
  | 2, _ => rfl
  | 3, _ => rfl
  | 4, _ => rfl
theorem getD5n (f : Nat → Nat) : ∀ i, i < 5 → [f 0, f 1, f 2, f 3, f 4].getD i 0 = f i
  | 0, _ => rfl
  | 1, _ => rfl
  | 2, _ => rfl
  | 3, _ => rfl
  | 4, _ => rfl
theorem prodTo_nat (a : Nat → Nat) (ha : ∀ i, a i < 32) (q : Nat) : ∀ k, k ≤ 5 → prodTo [(a 0 : Int), (a 1 : Int), (a 2 : Int), (a 3 : Int), (a 4 : Int)] q k = (uni a q k : Nat)
  | 0, _ => rfl
  | k + 1, hk => by
    have ih := prodTo_nat a ha q k (by omega)
    have hu : uni a q k < 32 := uni_lt (n := 5) (fun i _ => ha i) q k (by omega)
    unfold prodTo uni
    split
    · rw [ih, getD5 (fun i => (a i : Int)) k (by omega), or_nat _ _ hu (ha k)]
    · exact ih
theorem made_prod {n : Nat} {a b : Nat → Nat} (ha : WF n a) (hb : WF n b) : made (prodRow n (a 0) (a 1) (a 2) (a 3) (a 4) (b 0) (b 1) (b 2) (b 3) (b 4)) n = [((prod n a b 0 : Nat) : Int), ((prod n a b 1 : Nat) : Int), ((prod n a b 2 : Nat) : Int), ((prod n a b 3 : Nat) : Int), ((prod n a b 4 : Nat) : Int)] := by
  refine made_nat _ _ _ (fun i hi h5 => ?_) (ha.prod hb).out
  unfold prodRow
  rw [getD5n b i h5, prodTo_nat a ha.lt32 _ n ha.top]
  unfold prod
  rw [if_pos hi]
theorem made_join {n : Nat} {a b : Nat → Nat} (ha : WF n a) (hb : WF n b) : made (fun i => bits BinOp.or IntKind.i64 ([(a 0 : Int), (a 1 : Int), (a 2 : Int), (a 3 : Int), (a 4 : Int)].getD i 0) ([(b 0 : Int), (b 1 : Int), (b 2 : Int), (b 3 : Int), (b 4 : Int)].getD i 0)) n = [((join a b 0 : Nat) : Int), ((join a b 1 : Nat) : Int), ((join a b 2 : Nat) : Int), ((join a b 3 : Nat) : Int), ((join a b 4 : Nat) : Int)] := by
  refine made_nat _ _ _ (fun i hi h5 => ?_) (ha.join hb).out
  rw [getD5 (fun i => (a i : Int)) i h5, getD5 (fun i => (b i : Int)) i h5, or_nat _ _ (ha.lt32 i) (hb.lt32 i)]
  rfl

theorem wf_rows {n : Nat} {r : Nat → Nat} (h : WF n r) : rows n 0 [(r 0 : Int), (r 1 : Int), (r 2 : Int), (r 3 : Int), (r 4 : Int)] = 0 := by
  have step : ∀ (k : Nat) (xs : List Int), rows n (k + 1) xs = 0 → rows n k ((r k : Int) :: xs) = 0 := by
    intro k xs hx
    by_cases hk : k < n
    · rw [rows_more hk (h.low k hk) (by have := h.self k hk; rw [bit_div] at this; simpa using this)]; exact hx
    · rw [rows_zero (by omega) (by rw [h.out k (by omega)]; rfl)]; exact hx
  exact step 0 _ (step 1 _ (step 2 _ (step 3 _ (step 4 _ rfl))))
theorem check_wf {n : Nat} {r : Nat → Nat} (h : WF n r) (w : World) : Calls Tryd.prog 16 #[.agg #[.int .i64 n, .int .i64 (r 0), .int .i64 (r 1), .int .i64 (r 2), .int .i64 (r 3), .int .i64 (r 4)]] w fun e w' => e = .returned (.int .i64 0) ∧ Below w.heap.size w w' := by
  have := check_any n h.pos h.top (r 0) (r 1) (r 2) (r 3) (r 4) w
  rw [wf_rows h] at this
  exact this
theorem rcheck_wf {n : Nat} {r : Nat → Nat} (h : WF n r) (w : World) : Calls Tryd.prog 17 #[.agg #[.int .i64 n, .int .i64 (r 0), .int .i64 (r 1), .int .i64 (r 2), .int .i64 (r 3), .int .i64 (r 4)]] w fun e w' => e = .returned (.int .i64 0) ∧ Below w.heap.size w w' := by
  have := rcheck_any n h.pos h.top (r 0) (r 1) (r 2) (r 3) (r 4) w
  rw [wf_rows h] at this
  exact this
theorem both_wf {n : Nat} {a b : Nat → Nat} (ha : WF n a) (hb : WF n b) (w : World) : Calls Tryd.prog 60 #[.agg #[.int .i64 n, .int .i64 (a 0), .int .i64 (a 1), .int .i64 (a 2), .int .i64 (a 3), .int .i64 (a 4)], .agg #[.int .i64 n, .int .i64 (b 0), .int .i64 (b 1), .int .i64 (b 2), .int .i64 (b 3), .int .i64 (b 4)]] w fun e w' => e = .returned (.int .i64 0) ∧ Below w.heap.size w w' := by
  have := both60 n (a 0) (a 1) (a 2) (a 3) (a 4) n (b 0) (b 1) (b 2) (b 3) (b 4) 0 0 (check_wf ha) (check_wf hb) w
  simpa [bothV] using this
theorem rboth_wf {n : Nat} {a b : Nat → Nat} (ha : WF n a) (hb : WF n b) (w : World) : Calls Tryd.prog 47 #[.agg #[.int .i64 n, .int .i64 (a 0), .int .i64 (a 1), .int .i64 (a 2), .int .i64 (a 3), .int .i64 (a 4)], .agg #[.int .i64 n, .int .i64 (b 0), .int .i64 (b 1), .int .i64 (b 2), .int .i64 (b 3), .int .i64 (b 4)]] w fun e w' => e = .returned (.int .i64 0) ∧ Below w.heap.size w w' := by
  have := both47 n (a 0) (a 1) (a 2) (a 3) (a 4) n (b 0) (b 1) (b 2) (b 3) (b 4) 0 0 (rcheck_wf ha) (rcheck_wf hb) w
  simpa [bothV] using this
/-- Products of well-formed graphs. -/
theorem product_wf {n : Nat} {a b : Nat → Nat} (ha : WF n a) (hb : WF n b) (w : World) : Calls Tryd.prog 21 #[.agg #[.int .i64 n, .int .i64 (a 0), .int .i64 (a 1), .int .i64 (a 2), .int .i64 (a 3), .int .i64 (a 4)], .agg #[.int .i64 n, .int .i64 (b 0), .int .i64 (b 1), .int .i64 (b 2), .int .i64 (b 3), .int .i64 (b 4)]] w fun e w' => e = .returned (pairV n (prod n a b 0 : Nat) (prod n a b 1 : Nat) (prod n a b 2 : Nat) (prod n a b 3 : Nat) (prod n a b 4 : Nat) 0) ∧ Below w.heap.size w w' :=
  product_ok n ha.top _ _ _ _ _ _ _ _ _ _ (hb.lt32 0) (hb.lt32 1) (hb.lt32 2) (hb.lt32 3) (hb.lt32 4) _ _ _ _ _ (made_prod ha hb) (both_wf ha hb) w
theorem compose_wf {n : Nat} {a b : Nat → Nat} (ha : WF n a) (hb : WF n b) (w : World) : Calls Tryd.prog 61 #[.agg #[.int .i64 n, .int .i64 (a 0), .int .i64 (a 1), .int .i64 (a 2), .int .i64 (a 3), .int .i64 (a 4)], .agg #[.int .i64 n, .int .i64 (b 0), .int .i64 (b 1), .int .i64 (b 2), .int .i64 (b 3), .int .i64 (b 4)]] w fun e w' => e = .returned (.agg #[.int .i64 n, .int .i64 (prod n a b 0 : Nat), .int .i64 (prod n a b 1 : Nat), .int .i64 (prod n a b 2 : Nat), .int .i64 (prod n a b 3 : Nat), .int .i64 (prod n a b 4 : Nat)]) ∧ Below w.heap.size w w' :=
  compose_ok n ha.top _ _ _ _ _ _ _ _ _ _ (hb.lt32 0) (hb.lt32 1) (hb.lt32 2) (hb.lt32 3) (hb.lt32 4) _ _ _ _ _ (made_prod ha hb) w
/-- Unions of well-formed graphs. -/
theorem union_wf {n : Nat} {a b : Nat → Nat} (ha : WF n a) (hb : WF n b) (w : World) : Calls Tryd.prog 23 #[.agg #[.int .i64 n, .int .i64 (a 0), .int .i64 (a 1), .int .i64 (a 2), .int .i64 (a 3), .int .i64 (a 4)], .agg #[.int .i64 n, .int .i64 (b 0), .int .i64 (b 1), .int .i64 (b 2), .int .i64 (b 3), .int .i64 (b 4)]] w fun e w' => e = .returned (pairV n (join a b 0 : Nat) (join a b 1 : Nat) (join a b 2 : Nat) (join a b 3 : Nat) (join a b 4 : Nat) 0) ∧ Below w.heap.size w w' :=
  union_ok n ha.top _ _ _ _ _ _ _ _ _ _ _ _ _ _ _ _ (made_join ha hb) (both_wf ha hb) w
end Go.Proofs.YtajhejdeijhccaaDoor.Graph
namespace Go.Proofs.YtajhejdeijhccaaDoor.Graph
open Go Go.RowKit Go.Graph Go.Law
open Go.Proofs.YtajhejdeijhccaaDoor.Col

theorem row_bel {w w' : World} {A B : Nat} {n r0 r1 r2 r3 r4 : Int} (h : Row6 w A n r0 r1 r2 r3 r4) (hb : Below B w w') (hl : A < B) : Row6 w' A n r0 r1 r2 r3 r4 :=
  ⟨(hb.cell hl).trans h.1, (hb.cell hl).trans h.2.1, (hb.cell hl).trans h.2.2.1, (hb.cell hl).trans h.2.2.2.1, (hb.cell hl).trans h.2.2.2.2.1, (hb.cell hl).trans h.2.2.2.2.2⟩
theorem row_wf {w : World} {A : Nat} {n : Int} {r : Nat → Nat} (h : Row6 w A n (r 0) (r 1) (r 2) (r 3) (r 4)) (i : Nat) (hi : i < 5) : w.cell? ⟨A, 1 + i, none⟩ = some (.int .i64 (r i)) := by
  have := row_at6 h i hi
  rw [getD5 (fun i => (r i : Int)) i hi] at this
  exact this
/-- Row p replaced. -/
theorem rowp_cell (n : Int) (g : Nat → Int) (p : Nat) (x : Int) (h : p < 5) : (Value.int .i64 n :: ((made g p).set p x).map (Value.int .i64))[1 + p]? = some (.int .i64 x) := by
  rw [Nat.add_comm, List.getElem?_cons_succ, List.getElem?_map, List.getElem?_set_self (by rw [made_length]; exact h)]; rfl
theorem rowp_set (n : Int) (g : Nat → Int) (p : Nat) (x y : Int) : (Value.int .i64 n :: ((made g p).set p x).map (Value.int .i64)).set (1 + p) (.int .i64 y) = Value.int .i64 n :: ((made g p).set p y).map (Value.int .i64) := by
  rw [Nat.add_comm, List.set_cons_succ, ← List.map_set, List.set_set]
theorem made_set0 (g : Nat → Int) (p : Nat) (h : p < 5) : (made g p).set p 0 = made g p := by
  apply List.ext_getElem?
  intro i
  by_cases hi : i = p
  · subst hi
    rw [List.getElem?_set_self (by rw [made_length]; exact h), made_get g i i h, if_neg (by omega)]
  · rw [List.getElem?_set_ne (by omega)]
set_option maxRecDepth 100000 in
set_option maxHeartbeats 2000000 in
theorem rproduct_wf {n : Nat} {a b : Nat → Nat} (ha : WF n a) (hb : WF n b) (w : World) : Calls Tryd.prog 62 #[.agg #[.int .i64 n, .int .i64 (a 0), .int .i64 (a 1), .int .i64 (a 2), .int .i64 (a 3), .int .i64 (a 4)], .agg #[.int .i64 n, .int .i64 (b 0), .int .i64 (b 1), .int .i64 (b 2), .int .i64 (b 3), .int .i64 (b 4)]] w fun e w' => e = .returned (.agg #[.int .i64 n, .int .i64 (prod n a b 0 : Nat), .int .i64 (prod n a b 1 : Nat), .int .i64 (prod n a b 2 : Nat), .int .i64 (prod n a b 3 : Nat), .int .i64 (prod n a b 4 : Nat)]) ∧ Below w.heap.size w w' := by
  have h5 := ha.top
  have HM := Lib.hid (made_nat (fun i => ((uni a (b i) n : Nat) : Int)) (prod n a b) n (fun i hi _ => by unfold prod; rw [if_pos hi]) (ha.prod hb).out)
  generalize hp0 : prod n a b 0 = p0 at *
  generalize hp1 : prod n a b 1 = p1 at *
  generalize hp2 : prod n a b 2 = p2 at *
  generalize hp3 : prod n a b 3 = p3 at *
  generalize hp4 : prod n a b 4 = p4 at *
  clear hp0 hp1 hp2 hp3 hp4
  have LA := Lib.hid ha.lt32
  have LB := Lib.hid hb.lt32
  clear ha hb
  have T0 := Lib.hid ((((below_alloc w (.cells #[.int .i64 n, .int .i64 (a 0), .int .i64 (a 1), .int .i64 (a 2), .int .i64 (a 3), .int .i64 (a 4)] 24)).alloc (by rw [size_alloc]; omega) (.cells #[.int .i64 n, .int .i64 (b 0), .int .i64 (b 1), .int .i64 (b 2), .int .i64 (b 3), .int .i64 (b 4)] 24)).alloc (by rw [size_alloc, size_alloc]; omega) (.cells #[.int .i64 0, .int .i64 0, .int .i64 0, .int .i64 0, .int .i64 0, .int .i64 0] 24)).alloc (by rw [size_alloc, size_alloc, size_alloc]; omega) (.cells #[.int .i64 n, .int .i64 0, .int .i64 0, .int .i64 0, .int .i64 0, .int .i64 0] 24))
  have RA := Lib.hid (row_alloc (row_alloc (row_alloc (row_new w n (a 0) (a 1) (a 2) (a 3) (a 4)) (.cells #[.int .i64 n, .int .i64 (b 0), .int .i64 (b 1), .int .i64 (b 2), .int .i64 (b 3), .int .i64 (b 4)] 24)) (.cells #[.int .i64 0, .int .i64 0, .int .i64 0, .int .i64 0, .int .i64 0, .int .i64 0] 24)) (.cells #[.int .i64 n, .int .i64 0, .int .i64 0, .int .i64 0, .int .i64 0, .int .i64 0] 24))
  have RB := Lib.hid (row_alloc (row_alloc (row_new (w.alloc (.cells #[.int .i64 n, .int .i64 (a 0), .int .i64 (a 1), .int .i64 (a 2), .int .i64 (a 3), .int .i64 (a 4)] 24)) n (b 0) (b 1) (b 2) (b 3) (b 4)) (.cells #[.int .i64 0, .int .i64 0, .int .i64 0, .int .i64 0, .int .i64 0, .int .i64 0] 24)) (.cells #[.int .i64 n, .int .i64 0, .int .i64 0, .int .i64 0, .int .i64 0, .int .i64 0] 24))
  rw [size_alloc] at RB
  have RO := Lib.hid ((own_new ((w.alloc (.cells #[.int .i64 n, .int .i64 (a 0), .int .i64 (a 1), .int .i64 (a 2), .int .i64 (a 3), .int .i64 (a 4)] 24)).alloc (.cells #[.int .i64 n, .int .i64 (b 0), .int .i64 (b 1), .int .i64 (b 2), .int .i64 (b 3), .int .i64 (b 4)] 24)) [.int .i64 0, .int .i64 0, .int .i64 0, .int .i64 0, .int .i64 0, .int .i64 0] 24).alloc (.cells #[.int .i64 n, .int .i64 0, .int .i64 0, .int .i64 0, .int .i64 0, .int .i64 0] 24))
  rw [size_alloc, size_alloc] at RO
  have RG := Lib.hid (own_new (((w.alloc (.cells #[.int .i64 n, .int .i64 (a 0), .int .i64 (a 1), .int .i64 (a 2), .int .i64 (a 3), .int .i64 (a 4)] 24)).alloc (.cells #[.int .i64 n, .int .i64 (b 0), .int .i64 (b 1), .int .i64 (b 2), .int .i64 (b 3), .int .i64 (b 4)] 24)).alloc (.cells #[.int .i64 0, .int .i64 0, .int .i64 0, .int .i64 0, .int .i64 0, .int .i64 0] 24)) [.int .i64 n, .int .i64 0, .int .i64 0, .int .i64 0, .int .i64 0, .int .i64 0] 24)
  rw [size_alloc, size_alloc, size_alloc] at RG
  go_enter Tryd.func62, Tryd.ntmps62
  go_wp2
  generalize World.alloc (World.alloc (World.alloc (World.alloc w _) _) _) _ = W4 at *
  have hn0 := RA.out.1
  go_loopw [6] (fun i wr => ∃ p : Nat, p ≤ n ∧ i = .int .i64 p ∧ Below (w.heap.size + 1 + 1 + 1) W4 wr ∧ Own wr (w.heap.size + 1 + 1 + 1) 24 (.int .i64 n :: (made (fun i => ((uni a (b i) n : Nat) : Int)) p).map (Value.int .i64))) (fun i _ => n - (intOf i).toNat)
  case atStart => exact ⟨0, Nat.zero_le _, rfl, Below.refl _ _, RG.out⟩
  case round =>
    obtain ⟨p, hp, rfl, hbl, hown⟩ := hrel
    have HBL := Lib.hid hbl
    have HOWN := Lib.hid hown
    clear hbl hown
    have hna := (row_bel RA.out HBL.out (by omega)).1
    clear hn0
    by_cases hlt : p < n
    · go_wp2
      go_loopw [7] (fun j wr => ∃ m : Nat, m ≤ n ∧ j = .int .i64 m ∧ Below (w.heap.size + 1 + 1 + 1) W4 wr ∧ Own wr (w.heap.size + 1 + 1 + 1) 24 (.int .i64 n :: ((made (fun i => ((uni a (b i) n : Nat) : Int)) p).set p ((uni a (b p) m : Nat) : Int)).map (Value.int .i64))) (fun j _ => n - (intOf j).toNat)
      case atStart => exact ⟨0, Nat.zero_le _, rfl, HBL.out, by have := made_set0 (fun i => ((uni a (b i) n : Nat) : Int)) p (by omega); show Own _ _ _ (_ :: ((made _ p).set p 0).map _); rw [this]; exact HOWN.out⟩
      case round =>
        obtain ⟨m, hm, rfl, hbl, hown⟩ := hrel
        have HBL := Lib.hid hbl
        have HOWN := Lib.hid hown
        clear hbl hown hna
        have hna := (row_bel RA.out HBL.out (by omega)).1
        by_cases hlt2 : m < n
        · have hca := row_wf (row_bel RA.out HBL.out (by omega)) m (by omega)
          have hcb := row_wf (row_bel RB.out HBL.out (by omega)) p (by omega)
          have hcg := HOWN.out.cell (rowp_cell n (fun i => ((uni a (b i) n : Nat) : Int)) p ((uni a (b p) m : Nat) : Int) (by omega))
          have hfr := HOWN.out.free (1 + p)
          have hq := LB.out p
          have hy := LA.out m
          have hx : uni a (b p) m < 32 := uni_lt (n := 5) (fun i _ => LA.out i) (b p) m (by omega)
          have HU := Lib.hid (show uni a (b p) (m + 1) = if b p / 2 ^ m % 2 = 1 then uni a (b p) m ||| a m else uni a (b p) m from rfl)
          generalize uni a (b p) m = x at *
          by_cases hbit : b p / 2 ^ m % 2 = 1
          · have HX := Lib.hid (show (b p / 2 ^ m % 2 == 1) = true by simp [hbit])
            have HBIT := Lib.hid hbit
            have HOR := Lib.hid (or_nat x (a m) hx hy)
            clear hbit
            go_wp2_with (go_at_call 58; refine (has_any (b p) m hq (by omega) _).mono ?_; rintro e w' ⟨rfl, rfl⟩; rw [HX.out])
            go_region
            go_wp2
            exact ⟨⟨m + 1, by omega, by go_num, (HBL.out.setCell (Nat.le_refl _) _).drew, by rw [HU.out, if_pos HBIT.out, ← HOR.out, ← rowp_set n _ p (x : Int)]; exact (HOWN.out.set (1 + p) _).drew⟩, by simp [intOf]; omega⟩
          · have HX := Lib.hid (show (b p / 2 ^ m % 2 == 1) = false by simp [hbit])
            have HBIT := Lib.hid hbit
            clear hbit
            go_wp2_with (go_at_call 58; refine (has_any (b p) m hq (by omega) _).mono ?_; rintro e w' ⟨rfl, rfl⟩; rw [HX.out])
            exact ⟨⟨m + 1, by omega, by go_num, HBL.out, by rw [HU.out, if_neg HBIT.out]; exact HOWN.out⟩, by simp [intOf]; omega⟩
        · have hk' : m = n := by omega
          subst hk'
          have HS := Lib.hid (made_set (fun i => ((uni a (b i) m : Nat) : Int)) p (by omega))
          go_wp2
          exact ⟨⟨p + 1, by omega, by go_num, HBL.out, by rw [← HS.out]; exact HOWN.out⟩, by simp [intOf]; omega⟩
    · have hk' : p = n := by omega
      subst hk'
      rw [HM.out] at HOWN
      have c0 := HOWN.out.cell (j := 0) (v := .int .i64 p) rfl
      have c1 := HOWN.out.cell (j := 1) (v := .int .i64 p0) rfl
      have c2 := HOWN.out.cell (j := 2) (v := .int .i64 p1) rfl
      have c3 := HOWN.out.cell (j := 3) (v := .int .i64 p2) rfl
      have c4 := HOWN.out.cell (j := 4) (v := .int .i64 p3) rfl
      have c5 := HOWN.out.cell (j := 5) (v := .int .i64 p4) rfl
      have HRES := Lib.hid (RO.out.below HBL.out (by omega))
      have d0 := HRES.out.cell (j := 0) (v := .int .i64 0) rfl
      have d1 := HRES.out.cell (j := 1) (v := .int .i64 0) rfl
      have d2 := HRES.out.cell (j := 2) (v := .int .i64 0) rfl
      have d3 := HRES.out.cell (j := 3) (v := .int .i64 0) rfl
      have d4 := HRES.out.cell (j := 4) (v := .int .i64 0) rfl
      have d5 := HRES.out.cell (j := 5) (v := .int .i64 0) rfl
      have z0 := HRES.out.free 0
      have z1 := HRES.out.free 1
      have z2 := HRES.out.free 2
      have z3 := HRES.out.free 3
      have z4 := HRES.out.free 4
      have z5 := HRES.out.free 5
      go_wp2
      (try simp only [Exit.inBlock, Exit.then])
      refine bodyPost_ret (v := .agg #[.int .i64 p, .int .i64 p0, .int .i64 p1, .int .i64 p2, .int .i64 p3, .int .i64 p4]) (by simp [results, Tryd.results62, go_sem, d0, d1, d2, d3, d4, d5]) rfl ⟨rfl, (((((((T0.out.trans (bel_le HBL.out (by omega))).setCell (by show w.heap.size ≤ w.heap.size + 1 + 1; omega) _).setCell (by show w.heap.size ≤ w.heap.size + 1 + 1; omega) _).setCell (by show w.heap.size ≤ w.heap.size + 1 + 1; omega) _).setCell (by show w.heap.size ≤ w.heap.size + 1 + 1; omega) _).setCell (by show w.heap.size ≤ w.heap.size + 1 + 1; omega) _).setCell (by show w.heap.size ≤ w.heap.size + 1 + 1; omega) _)⟩
end Go.Proofs.YtajhejdeijhccaaDoor.Graph
