/-
  Plain facts on graphs with renamed processes.
-/
import Derived.Test.YtgkgdobmiejdhaaEvTGRefProd
namespace Go.Graph

def upd (f : Nat → Nat) (i v : Nat) : Nat → Nat := fun j => if j = i then v else f j
theorem upd_same (f : Nat → Nat) (i v : Nat) : upd f i v i = v := by simp [upd]
theorem upd_far {f : Nat → Nat} {i v j : Nat} (h : j ≠ i) : upd f i v j = f j := by simp [upd, h]
/-- The rows after the first q bits of row p. -/
def accIn (r π : Nat → Nat) (p : Nat) (f : Nat → Nat) : Nat → Nat → Nat
  | 0 => f
  | q + 1 => if r p / 2 ^ q % 2 = 1 then upd (accIn r π p f q) (π p) (accIn r π p f q (π p) ||| 2 ^ π q) else accIn r π p f q
/-- The rows after the first p rows. -/
def accTo (n : Nat) (r π : Nat → Nat) : Nat → Nat → Nat
  | 0 => fun _ => 0
  | p + 1 => accIn r π p (accTo n r π p) n
/-- The renamed graph. -/
def ren (n : Nat) (r π : Nat → Nat) : Nat → Nat := accTo n r π n
theorem accIn_lt {n : Nat} {r π : Nat → Nat} (hπ : ∀ i, i < n → π i < n) {p : Nat} (hp : p < n) {f : Nat → Nat} (hf : ∀ i, f i < 2 ^ n) (h0 : ∀ i, n ≤ i → f i = 0) : ∀ q, q ≤ n → (∀ i, accIn r π p f q i < 2 ^ n) ∧ ∀ i, n ≤ i → accIn r π p f q i = 0
  | 0, _ => ⟨hf, h0⟩
  | q + 1, hq => by
    obtain ⟨h1, h2⟩ := accIn_lt (r := r) hπ hp hf h0 q (by omega)
    unfold accIn
    split
    · refine ⟨fun i => ?_, fun i hi => ?_⟩
      · by_cases e : i = π p
        · subst e; rw [upd_same]; exact Nat.or_lt_two_pow (h1 _) (Nat.pow_lt_pow_right (by omega) (hπ q (by omega)))
        · rw [upd_far e]; exact h1 i
      · have := hπ p hp
        rw [upd_far (by omega)]; exact h2 i hi
    · exact ⟨h1, h2⟩
theorem accTo_lt {n : Nat} {r π : Nat → Nat} (hπ : ∀ i, i < n → π i < n) : ∀ p, p ≤ n → (∀ i, accTo n r π p i < 2 ^ n) ∧ ∀ i, n ≤ i → accTo n r π p i = 0
  | 0, _ => ⟨fun _ => Nat.pow_pos (by omega), fun _ _ => rfl⟩
  | p + 1, hp => by
    obtain ⟨h1, h2⟩ := accTo_lt (r := r) hπ p (by omega)
    exact accIn_lt hπ (by omega) h1 h2 n (Nat.le_refl _)
theorem accIn_bit (r π : Nat → Nat) (p : Nat) (f : Nat → Nat) (i j : Nat) : ∀ q, (accIn r π p f q i).testBit j = true ↔ (f i).testBit j = true ∨ ∃ k, k < q ∧ (r p).testBit k = true ∧ i = π p ∧ j = π k
  | 0 => by simp [accIn]
  | q + 1 => by
    have ih := accIn_bit r π p f i j q
    unfold accIn
    by_cases h : r p / 2 ^ q % 2 = 1
    · have hk : (r p).testBit q = true := by rw [bit_div]; simpa using h
      rw [if_pos h]
      by_cases e : i = π p
      · subst e
        rw [upd_same, Nat.testBit_or, Bool.or_eq_true, ih, Nat.testBit_two_pow]
        constructor
        · rintro ((h1 | ⟨k, hk1, hk2, hk3, hk4⟩) | h1)
          · exact .inl h1
          · exact .inr ⟨k, by omega, hk2, hk3, hk4⟩
          · exact .inr ⟨q, by omega, hk, rfl, by simpa using (of_decide_eq_true h1).symm⟩
        · rintro (h1 | ⟨k, hk1, hk2, hk3, hk4⟩)
          · exact .inl (.inl h1)
          · by_cases ek : k = q
            · subst ek; exact .inr (by simpa using hk4.symm)
            · exact .inl (.inr ⟨k, by omega, hk2, hk3, hk4⟩)
      · rw [upd_far e, ih]
        constructor
        · rintro (h1 | ⟨k, hk1, hk2, hk3, hk4⟩)
          · exact .inl h1
          · exact absurd hk3 e
        · rintro (h1 | ⟨k, hk1, hk2, hk3, hk4⟩)
          · exact .inl h1
          · exact absurd hk3 e
    · have hk : ¬ (r p).testBit q = true := by rw [bit_div]; simpa using h
      rw [if_neg h, ih]
      constructor
      · rintro (h1 | ⟨k, hk1, hk2, hk3, hk4⟩)
        · exact .inl h1
        · exact .inr ⟨k, by omega, hk2, hk3, hk4⟩
      · rintro (h1 | ⟨k, hk1, hk2, hk3, hk4⟩)
        · exact .inl h1
        · by_cases ek : k = q
          · subst ek; exact absurd hk2 hk
          · exact .inr ⟨k, by omega, hk2, hk3, hk4⟩
theorem accTo_bit (n : Nat) (r π : Nat → Nat) (i j : Nat) : ∀ p, (accTo n r π p i).testBit j = true ↔ ∃ x, x < p ∧ ∃ k, k < n ∧ (r x).testBit k = true ∧ i = π x ∧ j = π k
  | 0 => by simp [accTo]
  | p + 1 => by
    have ih := accTo_bit n r π i j p
    show (accIn r π p (accTo n r π p) n i).testBit j = true ↔ _
    rw [accIn_bit, ih]
    constructor
    · rintro (⟨x, hx, h⟩ | h)
      · exact ⟨x, by omega, h⟩
      · exact ⟨p, by omega, h⟩
    · rintro ⟨x, hx, h⟩
      by_cases e : x = p
      · subst e; exact .inr h
      · exact .inl ⟨x, by omega, h⟩
theorem ren_bit (n : Nat) (r π : Nat → Nat) (i j : Nat) : (ren n r π i).testBit j = true ↔ ∃ x, x < n ∧ ∃ k, k < n ∧ (r x).testBit k = true ∧ i = π x ∧ j = π k := accTo_bit n r π i j n
/-- Five rows. -/
def rowsL (f : Nat → Nat) : List Int := (List.range 5).map fun i => (f i : Int)
theorem rowsL_get (f : Nat → Nat) (i : Nat) (h : i < 5) : (rowsL f)[i]? = some (f i : Int) := by simp [rowsL, h]
theorem rowsL_set (f : Nat → Nat) (i v : Nat) : (rowsL f).set i (v : Int) = rowsL (upd f i v) := by
  apply List.ext_getElem?
  intro j
  by_cases hj : j < 5
  · rw [rowsL_get _ j hj]
    by_cases e : j = i
    · subst e; rw [List.getElem?_set_self (by simp [rowsL]; exact hj), upd_same]
    · rw [List.getElem?_set_ne (by omega), rowsL_get _ j hj, upd_far e]
  · rw [List.getElem?_eq_none (by simp [rowsL]; omega), List.getElem?_eq_none (by simp [rowsL]; omega)]
end Go.Graph
