/-
  Plain facts on graphs: the check of a graph, their order.
-/
import GoSem.Step
namespace Go.Graph

/-- The error of the rows from a number on. -/
def rows (n : Nat) : Nat → List Int → Int
  | _, [] => 0
  | k, x :: xs => if n ≤ k then (if x ≠ 0 then 3 else rows n (k + 1) xs) else if x < 0 ∨ ((2 ^ n : Nat) : Int) ≤ x then 2 else if x.toNat / 2 ^ k % 2 = 0 then 3 else rows n (k + 1) xs
/-- The error of a graph. -/
def check (n : Int) (r : List Int) : Int := if n < 1 ∨ 5 < n then 2 else rows n.toNat 0 r
theorem rows_far {n k : Nat} {x : Int} {xs : List Int} (h : n ≤ k) (hx : x ≠ 0) : rows n k (x :: xs) = 3 := by rw [rows, if_pos h, if_pos hx]
theorem rows_zero {n k : Nat} {x : Int} {xs : List Int} (h : n ≤ k) (hx : x = 0) : rows n k (x :: xs) = rows n (k + 1) xs := by rw [rows, if_pos h, if_neg (by omega)]
theorem rows_range {n k : Nat} {x : Int} {xs : List Int} (h : k < n) (hx : x < 0 ∨ ((2 ^ n : Nat) : Int) ≤ x) : rows n k (x :: xs) = 2 := by rw [rows, if_neg (by omega), if_pos hx]
theorem rows_self {n k : Nat} {x : Nat} {xs : List Int} (h : k < n) (hx : x < 2 ^ n) (hb : x / 2 ^ k % 2 = 0) : rows n k ((x : Int) :: xs) = 3 := by
  rw [rows, if_neg (by omega), if_neg (by omega), Int.toNat_natCast, if_pos hb]
theorem rows_more {n k : Nat} {x : Nat} {xs : List Int} (h : k < n) (hx : x < 2 ^ n) (hb : x / 2 ^ k % 2 = 1) : rows n k ((x : Int) :: xs) = rows n (k + 1) xs := by
  rw [rows, if_neg (by omega), if_neg (by omega), Int.toNat_natCast, if_neg (by omega)]
theorem getD_mem {l : List Int} {k : Nat} (h : k < l.length) : l.getD k 0 ∈ l := by
  rw [List.getD_eq_getElem?_getD, List.getElem?_eq_getElem h]; exact List.getElem_mem h
theorem drop_cons {l : List Int} {k : Nat} (h : k < l.length) : l.drop k = l.getD k 0 :: l.drop (k + 1) := by
  rw [List.drop_eq_getElem_cons h]; simp [List.getD, List.getElem?_eq_getElem h]

/-- Three ways of two numbers. -/
def cmp (a b : Int) : Int := if a < b then -1 else if b < a then 1 else 0
/-- The order of two lists of the same length. -/
def lex : List Int → List Int → Int
  | x :: xs, y :: ys => if x < y then -1 else if y < x then 1 else lex xs ys
  | _, _ => 0
theorem lex_cons (x y : Int) (xs ys : List Int) : lex (x :: xs) (y :: ys) = if cmp x y = 0 then lex xs ys else cmp x y := by
  unfold cmp
  rw [lex]
  split
  · simp
  · split <;> simp
theorem cmp_zero {x y : Int} : cmp x y = 0 ↔ x = y := by
  unfold cmp
  split
  · constructor
    · intro h; omega
    · intro h; omega
  · split
    · constructor
      · intro h; omega
      · intro h; omega
    · constructor
      · intro _; omega
      · intro _; rfl
end Go.Graph
