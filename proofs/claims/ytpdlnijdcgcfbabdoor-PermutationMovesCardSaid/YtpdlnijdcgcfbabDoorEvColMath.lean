/-
  Plain facts: the set of a list of numbers, read from the left.
-/
import GoSem.Step
namespace Go.Col

/-- The set of a list, and the number of the error, from a set on. -/
def scan (n : Nat) : List Int → Nat → Int × Int
  | [], s => (s, 0)
  | x :: xs, s => if x < 0 ∨ (n : Int) ≤ x then (0, 2) else if s / 2 ^ x.toNat % 2 = 1 then (0, 7) else scan n xs (s + 2 ^ x.toNat)

theorem scan_range {n : Nat} {x : Int} {xs : List Int} {s : Nat} (h : x < 0 ∨ (n : Int) ≤ x) : scan n (x :: xs) s = (0, 2) := by rw [scan, if_pos h]
theorem scan_twice {n : Nat} {x : Int} {xs : List Int} {s : Nat} (h0 : 0 ≤ x) (h1 : x < n) (h : s / 2 ^ x.toNat % 2 = 1) : scan n (x :: xs) s = (0, 7) := by
  rw [scan, if_neg (by omega), if_pos h]
theorem scan_more {n : Nat} {x : Int} {xs : List Int} {s : Nat} (h0 : 0 ≤ x) (h1 : x < n) (h : s / 2 ^ x.toNat % 2 = 0) : scan n (x :: xs) s = scan n xs (s + 2 ^ x.toNat) := by
  rw [scan, if_neg (by omega), if_neg (by omega)]

theorem room : ∀ n, n < 6 → ∀ x, x < n → ∀ s, s < 2 ^ n → s / 2 ^ x % 2 = 0 → s + 2 ^ x < 2 ^ n := by
  intro n hn x hx s hs h
  have e : ∀ n < 6, ∀ x < n, ∀ s < 32, s < 2 ^ n → s / 2 ^ x % 2 = 0 → s + 2 ^ x < 2 ^ n := by decide +kernel
  refine e n hn x hx s (Nat.lt_of_lt_of_le hs ?_) hs h
  exact Nat.pow_le_pow_right (by omega) (show n ≤ 5 by omega)
theorem bits_or : ∀ x, x < 5 → ∀ s, s < 32 → s / 2 ^ x % 2 = 0 → s ||| 2 ^ x = s + 2 ^ x := by decide +kernel
theorem bits_and : ∀ x, x < 5 → ∀ s, s < 32 → (s &&& 2 ^ x = 0 ↔ s / 2 ^ x % 2 = 0) := by decide +kernel
end Go.Col
