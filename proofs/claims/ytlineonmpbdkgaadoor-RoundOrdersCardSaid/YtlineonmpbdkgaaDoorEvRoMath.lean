/-
  The lexicographic order of lists of numbers.
-/
import Derived.Test.YtlineonmpbdkgaaDoorEvGMath
namespace Go.Graph

theorem cmp_neg (x y : Int) : cmp y x = - cmp x y := by
  unfold cmp
  split <;> split <;> first | omega | (split <;> omega)
theorem lex_neg : ∀ xs ys : List Int, lex ys xs = - lex xs ys
  | [], [] => rfl
  | [], _ :: _ => rfl
  | _ :: _, [] => rfl
  | x :: xs, y :: ys => by
    have ih := lex_neg xs ys
    rw [lex, lex]
    split <;> split <;> first | omega | (split <;> omega)
theorem lex_self : ∀ xs : List Int, lex xs xs = 0
  | [] => rfl
  | x :: xs => by rw [lex, if_neg (by omega), if_neg (by omega)]; exact lex_self xs
theorem lex_range : ∀ xs ys : List Int, lex xs ys = -1 ∨ lex xs ys = 0 ∨ lex xs ys = 1
  | [], [] => .inr (.inl rfl)
  | [], _ :: _ => .inr (.inl rfl)
  | _ :: _, [] => .inr (.inl rfl)
  | x :: xs, y :: ys => by
    rw [lex]
    split
    · exact .inl rfl
    · split
      · exact .inr (.inr rfl)
      · exact lex_range xs ys
theorem lex_zero : ∀ {xs ys : List Int}, xs.length = ys.length → (lex xs ys = 0 ↔ xs = ys)
  | [], [], _ => ⟨fun _ => rfl, fun _ => rfl⟩
  | [], _ :: _, h => by simp at h
  | _ :: _, [], h => by simp at h
  | x :: xs, y :: ys, h => by
    have ih := lex_zero (xs := xs) (ys := ys) (by simpa using h)
    rw [lex]
    constructor
    · intro e
      split at e
      · omega
      · split at e
        · omega
        · rw [ih.1 e, show x = y by omega]
    · intro e
      injection e with e1 e2
      rw [if_neg (by omega), if_neg (by omega)]
      exact ih.2 e2
/-- Where neither step goes down, the way over both goes as the greater step does. -/
theorem lex_trans : ∀ {xs ys zs : List Int}, xs.length = ys.length → ys.length = zs.length → lex xs ys ≤ 0 → lex ys zs ≤ 0 → lex xs zs = max (-1) (lex xs ys + lex ys zs)
  | [], [], [], _, _, _, _ => rfl
  | [], _ :: _, _, h, _, _, _ => by simp at h
  | _ :: _, [], _, h, _, _, _ => by simp at h
  | [], [], _ :: _, _, h, _, _ => by simp at h
  | _ :: _, _ :: _, [], _, h, _, _ => by simp at h
  | x :: xs, y :: ys, z :: zs, h1, h2, h3, h4 => by
    have hr1 := lex_range xs ys
    have hr2 := lex_range ys zs
    simp only [lex] at h3 h4 ⊢
    by_cases a : x < y
    · by_cases b : y < z
      · rw [if_pos a, if_pos b, if_pos (by omega)]; omega
      · by_cases c : z < y
        · rw [if_neg b, if_pos c] at h4; omega
        · rw [if_neg b, if_neg c] at h4
          rw [if_pos a, if_neg b, if_neg c, if_pos (by omega)]; omega
    · by_cases c : y < x
      · rw [if_neg a, if_pos c] at h3; omega
      · rw [if_neg a, if_neg c] at h3
        by_cases b : y < z
        · rw [if_neg a, if_neg c, if_pos b, if_pos (by omega)]; omega
        · by_cases d : z < y
          · rw [if_neg b, if_pos d] at h4; omega
          · rw [if_neg b, if_neg d] at h4
            rw [if_neg a, if_neg c, if_neg b, if_neg d, if_neg (by omega), if_neg (by omega)]
            exact lex_trans (by simpa using h1) (by simpa using h2) h3 h4
end Go.Graph
