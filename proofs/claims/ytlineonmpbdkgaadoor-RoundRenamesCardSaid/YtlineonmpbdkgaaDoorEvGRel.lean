/-
  Plain facts on well-formed graphs as rows of bits: products, unions, reversals, and their laws.
-/
import GoSem.Step
namespace Go.Graph

/-- The error of the rows from a number on. -/
def rows (n : Nat) : Nat → List Int → Int
  | _, [] => 0
  | k, x :: xs => if n ≤ k then (if x ≠ 0 then 3 else rows n (k + 1) xs) else if x < 0 ∨ ((2 ^ n : Nat) : Int) ≤ x then 2 else if x.toNat / 2 ^ k % 2 = 0 then 3 else rows n (k + 1) xs
/-- The error of a graph. -/
def check (n : Int) (r : List Int) : Int := if n < 1 ∨ 5 < n then 2 else rows n.toNat 0 r
theorem rows_far {n k : Nat} {x : Int} {xs : List Int} (h : n ≤ k) (hx : x ≠ 0) : rows n k (x :: xs) = 3 := by rw [rows, if_pos h, if_pos hx]
theorem rows_zero {n k : Nat} {x : Int} {xs : List Int} (h : n ≤ k) (hx : x = 0) : rows n k (x :: xs) = rows n (k + 1) xs := by rw [rows, if_pos h, if_neg (by omega)]
theorem rows_range {n k : Nat} {x : Int} {xs : List Int} (h : k < n) (hx : x < 0 ∨ ((2 ^ n : Nat) : Int) ≤ x) : rows n k (x :: xs) = 2 := by rw [rows, if_neg (by omega), if_pos hx]
theorem rows_self {n k : Nat} {x : Nat} {xs : List Int} (h : k < n) (hx : x < 2 ^ n) (hb : x / 2 ^ k % 2 = 0) : rows n k ((x : Int) :: xs) = 3 := by
  rw [rows, if_neg (by omega), if_neg (by omega), Int.toNat_natCast, if_pos hb]
theorem rows_more {n k : Nat} {x : Nat} {xs : List Int} (h : k < n) (hx : x < 2 ^ n) (hb : x / 2 ^ k % 2 = 1) : rows n k ((x : Int) :: xs) = rows n (k + 1) xs := by
  rw [rows, if_neg (by omega), if_neg (by omega), Int.toNat_natCast, if_neg (by omega)]
theorem getD_mem {l : List Int} {k : Nat} (h : k < l.length) : l.getD k 0 ∈ l := by
  rw [List.getD_eq_getElem?_getD, List.getElem?_eq_getElem h]; exact List.getElem_mem h
theorem drop_cons {l : List Int} {k : Nat} (h : k < l.length) : l.drop k = l.getD k 0 :: l.drop (k + 1) := by
  rw [List.drop_eq_getElem_cons h]; simp [List.getD, List.getElem?_eq_getElem h]

/-- Three ways of two numbers. -/
def cmp (a b : Int) : Int := if a < b then -1 else if b < a then 1 else 0
/-- The order of two lists of the same length. -/
def lex : List Int → List Int → Int
  | x :: xs, y :: ys => if x < y then -1 else if y < x then 1 else lex xs ys
  | _, _ => 0
theorem lex_cons (x y : Int) (xs ys : List Int) : lex (x :: xs) (y :: ys) = if cmp x y = 0 then lex xs ys else cmp x y := by
  unfold cmp
  rw [lex]
  split
  · simp
  · split <;> simp
theorem cmp_zero {x y : Int} : cmp x y = 0 ↔ x = y := by
  unfold cmp
  split
  · constructor
    · intro h; omega
    · intro h; omega
  · split
    · constructor
      · intro h; omega
      · intro h; omega
    · constructor
      · intro _; omega
      · intro _; rfl
end Go.Graph
namespace Go.Graph

theorem cmp_neg (x y : Int) : cmp y x = - cmp x y := by
  unfold cmp
  split <;> split <;> first | omega | (split <;> omega)
theorem lex_neg : ∀ xs ys : List Int, lex ys xs = - lex xs ys
  | [], [] => rfl
  | [], _ :: _ => rfl
  | _ :: _, [] => rfl
  | x :: xs, y :: ys => by
    have ih := lex_neg xs ys
    rw [lex, lex]
    split <;> split <;> first | omega | (split <;> omega)
theorem lex_self : ∀ xs : List Int, lex xs xs = 0
  | [] => rfl
  | x :: xs => by rw [lex, if_neg (by omega), if_neg (by omega)]; exact lex_self xs
theorem lex_range : ∀ xs ys : List Int, lex xs ys = -1 ∨ lex xs ys = 0 ∨ lex xs ys = 1
  | [], [] => .inr (.inl rfl)
  | [], _ :: _ => .inr (.inl rfl)
  | _ :: _, [] => .inr (.inl rfl)
  | x :: xs, y :: ys => by
    rw [lex]
    split
    · exact .inl rfl
    · split
      · exact .inr (.inr rfl)
      · exact lex_range xs ys
theorem lex_zero : ∀ {xs ys : List Int}, xs.length = ys.length → (lex xs ys = 0 ↔ xs = ys)
  | [], [], _ => ⟨fun _ => rfl, fun _ => rfl⟩
  | [], _ :: _, h => by simp at h
  | _ :: _, [], h => by simp at h
  | x :: xs, y :: ys, h => by
    have ih := lex_zero (xs := xs) (ys := ys) (by simpa using h)
    rw [lex]
    constructor
    · intro e
      split at e
      · omega
      · split at e
        · omega
        · rw [ih.1 e, show x = y by omega]
    · intro e
      injection e with e1 e2
      rw [if_neg (by omega), if_neg (by omega)]
      exact ih.2 e2
/-- Where neither step goes down, the way over both goes as the greater step does. -/
theorem lex_trans : ∀ {xs ys zs : List Int}, xs.length = ys.length → ys.length = zs.length → lex xs ys ≤ 0 → lex ys zs ≤ 0 → lex xs zs = max (-1) (lex xs ys + lex ys zs)
  | [], [], [], _, _, _, _ => rfl
  | [], _ :: _, _, h, _, _, _ => by simp at h
  | _ :: _, [], _, h, _, _, _ => by simp at h
  | [], [], _ :: _, _, h, _, _ => by simp at h
  | _ :: _, _ :: _, [], _, h, _, _ => by simp at h
  | x :: xs, y :: ys, z :: zs, h1, h2, h3, h4 => by
    have hr1 := lex_range xs ys
    have hr2 := lex_range ys zs
    simp only [lex] at h3 h4 ⊢
    by_cases a : x < y
    · by_cases b : y < z
      · rw [if_pos a, if_pos b, if_pos (by omega)]; omega
      · by_cases c : z < y
        · rw [if_neg b, if_pos c] at h4; omega
        · rw [if_neg b, if_neg c] at h4
          rw [if_pos a, if_neg b, if_neg c, if_pos (by omega)]; omega
    · by_cases c : y < x
      · rw [if_neg a, if_pos c] at h3; omega
      · rw [if_neg a, if_neg c] at h3
        by_cases b : y < z
        · rw [if_neg a, if_neg c, if_pos b, if_pos (by omega)]; omega
        · by_cases d : z < y
          · rw [if_neg b, if_pos d] at h4; omega
          · rw [if_neg b, if_neg d] at h4
            rw [if_neg a, if_neg c, if_neg b, if_neg d, if_neg (by omega), if_neg (by omega)]
            exact lex_trans (by simpa using h1) (by simpa using h2) h3 h4
end Go.Graph
namespace Go.Graph

/-- A well-formed graph of n processes: row i is the set of the processes that i hears. -/
structure WF (n : Nat) (r : Nat → Nat) : Prop where
  pos : 1 ≤ n
  top : n ≤ 5
  low : ∀ i, i < n → r i < 2 ^ n
  self : ∀ i, i < n → (r i).testBit i = true
  out : ∀ i, n ≤ i → r i = 0

/-- The union of the rows of R that the bits of q below k name. -/
def uni (R : Nat → Nat) (q : Nat) : Nat → Nat
  | 0 => 0
  | k + 1 => if q / 2 ^ k % 2 = 1 then uni R q k ||| R k else uni R q k
theorem bit_div (q k : Nat) : q.testBit k = decide (q / 2 ^ k % 2 = 1) := by
  rw [Nat.testBit_eq_decide_div_mod_eq]
theorem uni_bit (R : Nat → Nat) (q j : Nat) : ∀ k, (uni R q k).testBit j = true ↔ ∃ m, m < k ∧ q.testBit m = true ∧ (R m).testBit j = true
  | 0 => by simp [uni]
  | k + 1 => by
    have ih := uni_bit R q j k
    unfold uni
    by_cases h : q / 2 ^ k % 2 = 1
    · have hk : q.testBit k = true := by rw [bit_div]; simpa using h
      rw [if_pos h, Nat.testBit_or, Bool.or_eq_true, ih]
      constructor
      · rintro (⟨m, hm, h1, h2⟩ | h2)
        · exact ⟨m, by omega, h1, h2⟩
        · exact ⟨k, by omega, hk, h2⟩
      · rintro ⟨m, hm, h1, h2⟩
        by_cases e : m = k
        · subst e; exact .inr h2
        · exact .inl ⟨m, by omega, h1, h2⟩
    · have hk : ¬ q.testBit k = true := by rw [bit_div]; simpa using h
      rw [if_neg h, ih]
      constructor
      · rintro ⟨m, hm, h1, h2⟩; exact ⟨m, by omega, h1, h2⟩
      · rintro ⟨m, hm, h1, h2⟩
        by_cases e : m = k
        · subst e; exact absurd h1 hk
        · exact ⟨m, by omega, h1, h2⟩
theorem uni_lt {R : Nat → Nat} {n : Nat} (h : ∀ i, i < n → R i < 2 ^ n) (q : Nat) : ∀ k, k ≤ n → uni R q k < 2 ^ n
  | 0, _ => Nat.pow_pos (by omega)
  | k + 1, hk => by
    have ih := uni_lt h q k (by omega)
    unfold uni
    split
    · exact Nat.or_lt_two_pow ih (h k (by omega))
    · exact ih
/-- The product of two graphs. -/
def prod (n : Nat) (a b : Nat → Nat) (i : Nat) : Nat := if i < n then uni a (b i) n else 0
/-- The union of two graphs. -/
def join (a b : Nat → Nat) (i : Nat) : Nat := a i ||| b i
/-- The graph without edges. -/
def sil (n : Nat) (i : Nat) : Nat := if i < n then 2 ^ i else 0
/-- The set of the q below k for which p holds. -/
def setOf (p : Nat → Bool) : Nat → Nat
  | 0 => 0
  | k + 1 => if p k then setOf p k ||| 2 ^ k else setOf p k
theorem setOf_bit (p : Nat → Bool) (j : Nat) : ∀ k, (setOf p k).testBit j = (decide (j < k) && p j)
  | 0 => by simp [setOf]
  | k + 1 => by
    have ih := setOf_bit p j k
    unfold setOf
    split
    · rename_i h
      rw [Nat.testBit_or, ih, Nat.testBit_two_pow]
      by_cases e : k = j
      · subst e; simp [h]
      · have : decide (j < k + 1) = decide (j < k) := by rw [decide_eq_decide]; omega
        simp [this, e]
    · rename_i h
      rw [ih]
      by_cases e : k = j
      · subst e; simp [h]
      · have : decide (j < k + 1) = decide (j < k) := by rw [decide_eq_decide]; omega
        simp [this]
theorem setOf_lt (p : Nat → Bool) (n : Nat) : ∀ k, k ≤ n → setOf p k < 2 ^ n
  | 0, _ => Nat.pow_pos (by omega)
  | k + 1, hk => by
    have ih := setOf_lt p n k (by omega)
    unfold setOf
    split
    · exact Nat.or_lt_two_pow ih (Nat.pow_lt_pow_right (by omega) (by omega))
    · exact ih
/-- The reversed graph. -/
def rev (n : Nat) (a : Nat → Nat) (i : Nat) : Nat := if i < n then setOf (fun q => (a q).testBit i) n else 0

theorem lt_bit {x n j : Nat} (h : x < 2 ^ n) (hj : x.testBit j = true) : j < n := by
  by_cases hn : j < n
  · exact hn
  · rw [Nat.testBit_lt_two_pow (Nat.lt_of_lt_of_le h (Nat.pow_le_pow_right (by omega) (by omega)))] at hj; cases hj
theorem WF.bit_lt {n : Nat} {r : Nat → Nat} (h : WF n r) {i j : Nat} (hj : (r i).testBit j = true) : i < n ∧ j < n := by
  by_cases hi : i < n
  · exact ⟨hi, lt_bit (h.low i hi) hj⟩
  · rw [h.out i (by omega)] at hj; simp at hj
theorem rows_eq {a b : Nat → Nat} (h : ∀ i j, (a i).testBit j = true ↔ (b i).testBit j = true) : a = b := by
  funext i
  apply Nat.eq_of_testBit_eq
  intro j
  rw [Bool.eq_iff_iff]
  exact h i j
theorem prod_bit (n : Nat) (a b : Nat → Nat) (i j : Nat) : (prod n a b i).testBit j = true ↔ i < n ∧ ∃ m, m < n ∧ (b i).testBit m = true ∧ (a m).testBit j = true := by
  unfold prod
  split
  · rename_i h
    rw [uni_bit]
    exact ⟨fun x => ⟨h, x⟩, fun x => x.2⟩
  · rename_i h
    simp [h]
theorem rev_bit (n : Nat) (a : Nat → Nat) (i j : Nat) : (rev n a i).testBit j = true ↔ i < n ∧ j < n ∧ (a j).testBit i = true := by
  unfold rev
  split
  · rename_i h
    rw [setOf_bit]
    simp [h]
  · rename_i h
    simp [h]
theorem sil_bit (n i j : Nat) : (sil n i).testBit j = true ↔ i < n ∧ i = j := by
  unfold sil
  split
  · rename_i h
    rw [Nat.testBit_two_pow]; simp [h]
  · rename_i h
    simp [h]
theorem join_bit (a b : Nat → Nat) (i j : Nat) : (join a b i).testBit j = true ↔ (a i).testBit j = true ∨ (b i).testBit j = true := by
  unfold join
  rw [Nat.testBit_or, Bool.or_eq_true]

theorem WF.prod {n : Nat} {a b : Nat → Nat} (ha : WF n a) (hb : WF n b) : WF n (prod n a b) where
  pos := ha.pos
  top := ha.top
  low i hi := by unfold Go.Graph.prod; rw [if_pos hi]; exact uni_lt ha.low _ n (Nat.le_refl _)
  self i hi := by rw [prod_bit]; exact ⟨hi, i, hi, hb.self i hi, ha.self i hi⟩
  out i hi := by unfold Go.Graph.prod; rw [if_neg (by omega)]
theorem WF.join {n : Nat} {a b : Nat → Nat} (ha : WF n a) (hb : WF n b) : WF n (join a b) where
  pos := ha.pos
  top := ha.top
  low i hi := Nat.or_lt_two_pow (ha.low i hi) (hb.low i hi)
  self i hi := by rw [join_bit]; exact .inl (ha.self i hi)
  out i hi := by unfold Go.Graph.join; rw [ha.out i hi, hb.out i hi]; rfl
theorem WF.rev {n : Nat} {a : Nat → Nat} (ha : WF n a) : WF n (rev n a) where
  pos := ha.pos
  top := ha.top
  low i hi := by unfold Go.Graph.rev; rw [if_pos hi]; exact setOf_lt _ n n (Nat.le_refl _)
  self i hi := by rw [rev_bit]; exact ⟨hi, hi, ha.self i hi⟩
  out i hi := by unfold Go.Graph.rev; rw [if_neg (by omega)]
theorem WF.sil {n : Nat} (h1 : 1 ≤ n) (h5 : n ≤ 5) : WF n (sil n) where
  pos := h1
  top := h5
  low i hi := by unfold Go.Graph.sil; rw [if_pos hi]; exact Nat.pow_lt_pow_right (by omega) hi
  self i hi := by rw [sil_bit]; exact ⟨hi, rfl⟩
  out i hi := by unfold Go.Graph.sil; rw [if_neg (by omega)]

theorem prod_assoc (n : Nat) (a b c : Nat → Nat) : prod n (prod n a b) c = prod n a (prod n b c) := by
  apply rows_eq
  intro i j
  simp only [prod_bit]
  constructor
  · rintro ⟨hi, m, hm, h1, _, l, hl, h2, h3⟩
    exact ⟨hi, l, hl, ⟨hi, m, hm, h1, h2⟩, h3⟩
  · rintro ⟨hi, l, hl, ⟨_, m, hm, h1, h2⟩, h3⟩
    exact ⟨hi, m, hm, h1, hm, l, hl, h2, h3⟩
theorem prod_join (n : Nat) (a b c : Nat → Nat) : prod n a (join b c) = join (prod n a b) (prod n a c) := by
  apply rows_eq
  intro i j
  simp only [prod_bit, join_bit]
  constructor
  · rintro ⟨hi, m, hm, h1 | h1, h2⟩
    · exact .inl ⟨hi, m, hm, h1, h2⟩
    · exact .inr ⟨hi, m, hm, h1, h2⟩
  · rintro (⟨hi, m, hm, h1, h2⟩ | ⟨hi, m, hm, h1, h2⟩)
    · exact ⟨hi, m, hm, .inl h1, h2⟩
    · exact ⟨hi, m, hm, .inr h1, h2⟩
theorem join_prod (n : Nat) (a b c : Nat → Nat) : prod n (join b c) a = join (prod n b a) (prod n c a) := by
  apply rows_eq
  intro i j
  simp only [prod_bit, join_bit]
  constructor
  · rintro ⟨hi, m, hm, h1, h2 | h2⟩
    · exact .inl ⟨hi, m, hm, h1, h2⟩
    · exact .inr ⟨hi, m, hm, h1, h2⟩
  · rintro (⟨hi, m, hm, h1, h2⟩ | ⟨hi, m, hm, h1, h2⟩)
    · exact ⟨hi, m, hm, h1, .inl h2⟩
    · exact ⟨hi, m, hm, h1, .inr h2⟩
theorem prod_sil {n : Nat} {a : Nat → Nat} (ha : WF n a) : prod n a (sil n) = a := by
  apply rows_eq
  intro i j
  simp only [prod_bit, sil_bit]
  constructor
  · rintro ⟨hi, m, hm, ⟨_, rfl⟩, h2⟩; exact h2
  · intro h
    have := (ha.bit_lt h).1
    exact ⟨this, i, this, ⟨this, rfl⟩, h⟩
theorem sil_prod {n : Nat} {a : Nat → Nat} (ha : WF n a) : prod n (sil n) a = a := by
  apply rows_eq
  intro i j
  simp only [prod_bit, sil_bit]
  constructor
  · rintro ⟨hi, m, hm, h1, _, rfl⟩; exact h1
  · intro h
    have := ha.bit_lt h
    exact ⟨this.1, j, this.2, h, this.2, rfl⟩
theorem rev_rev {n : Nat} {a : Nat → Nat} (ha : WF n a) : rev n (rev n a) = a := by
  apply rows_eq
  intro i j
  simp only [rev_bit]
  constructor
  · rintro ⟨_, _, _, _, h⟩; exact h
  · intro h
    have := ha.bit_lt h
    exact ⟨this.1, this.2, this.2, this.1, h⟩
theorem rev_prod (n : Nat) (a b : Nat → Nat) : rev n (prod n a b) = prod n (rev n b) (rev n a) := by
  apply rows_eq
  intro i j
  simp only [rev_bit, prod_bit]
  constructor
  · rintro ⟨hi, hj, _, m, hm, h1, h2⟩; exact ⟨hi, m, hm, ⟨hi, hm, h2⟩, hm, hj, h1⟩
  · rintro ⟨hi, m, hm, ⟨_, _, h1⟩, _, hj, h2⟩; exact ⟨hi, hj, hj, m, hm, h2, h1⟩

theorem rows_far_zero {n k : Nat} {x : Int} {xs : List Int} (h : n ≤ k) (hr : rows n k (x :: xs) = 0) : x = 0 ∧ rows n (k + 1) xs = 0 := by
  rw [rows, if_pos h] at hr
  split at hr
  · cases hr
  · rename_i hx; exact ⟨by omega, hr⟩
theorem rows_near {n k : Nat} {x : Int} {xs : List Int} (h : k < n) (hr : rows n k (x :: xs) = 0) : 0 ≤ x ∧ x.toNat < 2 ^ n ∧ x.toNat.testBit k = true ∧ rows n (k + 1) xs = 0 := by
  rw [rows, if_neg (by omega)] at hr
  split at hr
  · cases hr
  · rename_i hx
    split at hr
    · cases hr
    · rename_i hb
      refine ⟨by omega, by omega, ?_, hr⟩
      rw [bit_div]; simp; omega
theorem rows_wf : ∀ (n : Nat) (xs : List Int) (k : Nat), rows n k xs = 0 → ∀ i, i < xs.length → (k + i < n → 0 ≤ xs.getD i 0 ∧ (xs.getD i 0).toNat < 2 ^ n ∧ (xs.getD i 0).toNat.testBit (k + i) = true) ∧ (n ≤ k + i → xs.getD i 0 = 0)
  | _, [], _, _, i, hi => by simp at hi
  | n, x :: xs, k, hr, i, hi => by
    have hrest : rows n (k + 1) xs = 0 := by
      by_cases h : n ≤ k
      · exact (rows_far_zero h hr).2
      · exact (rows_near (by omega) hr).2.2.2
    cases i with
    | zero =>
      constructor
      · intro h
        have := rows_near (by omega) hr
        exact ⟨this.1, this.2.1, this.2.2.1⟩
      · intro h; exact (rows_far_zero (by omega) hr).1
    | succ i =>
      have := rows_wf n xs (k + 1) hrest i (by simpa using hi)
      rw [show k + 1 + i = k + (i + 1) by omega] at this
      simpa using this
/-- A graph without an error is well-formed. -/
theorem wf_of {n : Nat} (h1 : 1 ≤ n) (h5 : n ≤ 5) {r0 r1 r2 r3 r4 : Int} (h : rows n 0 [r0, r1, r2, r3, r4] = 0) :
    ∃ r : Nat → Nat, WF n r ∧ r0 = r 0 ∧ r1 = r 1 ∧ r2 = r 2 ∧ r3 = r 3 ∧ r4 = r 4 := by
  have hw := rows_wf n _ 0 h
  simp only [Nat.zero_add] at hw
  have hnn : ∀ i, i < 5 → 0 ≤ [r0, r1, r2, r3, r4].getD i 0 := by
    intro i hi
    by_cases hn : i < n
    · exact ((hw i (by simpa using hi)).1 hn).1
    · rw [(hw i (by simpa using hi)).2 (by omega)]; omega
  refine ⟨fun i => ([r0, r1, r2, r3, r4].getD i 0).toNat, ⟨h1, h5, ?_, ?_, ?_⟩, ?_, ?_, ?_, ?_, ?_⟩
  · intro i hi; exact ((hw i (by simp; omega)).1 hi).2.1
  · intro i hi; exact ((hw i (by simp; omega)).1 hi).2.2
  · intro i hi
    by_cases h : i < 5
    · show ([r0, r1, r2, r3, r4].getD i 0).toNat = 0
      rw [(hw i (by simpa using h)).2 hi]; rfl
    · show ([r0, r1, r2, r3, r4].getD i 0).toNat = 0
      rw [List.getD_eq_getElem?_getD, List.getElem?_eq_none (by simp; omega)]; rfl
  · have := hnn 0 (by omega); simp at this ⊢; omega
  · have := hnn 1 (by omega); simp at this ⊢; omega
  · have := hnn 2 (by omega); simp at this ⊢; omega
  · have := hnn 3 (by omega); simp at this ⊢; omega
  · have := hnn 4 (by omega); simp at this ⊢; omega
end Go.Graph
