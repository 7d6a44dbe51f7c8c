/-
  Vertices and lists of vertices: their orders.
-/
import GoSem.Step
namespace Go.Sx
/-- A vertex: its color and its label. -/
abbrev V := Int × Int
def cmpI (x y : Int) : Int := if x < y then -1 else if y < x then 1 else 0
def cmpV (a b : V) : Int := if cmpI a.1 b.1 ≠ 0 then cmpI a.1 b.1 else cmpI a.2 b.2
def cmpL : List V → List V → Int
  | [], [] => 0
  | [], _ :: _ => -1
  | _ :: _, [] => 1
  | a :: l, b :: m => if cmpV a b ≠ 0 then cmpV a b else cmpL l m
theorem cmpI_cases (x y : Int) : (x < y ∧ cmpI x y = -1) ∨ (y < x ∧ cmpI x y = 1) ∨ (x = y ∧ cmpI x y = 0) := by
  unfold cmpI
  by_cases h : x < y
  · rw [if_pos h]; exact .inl ⟨h, rfl⟩
  · rw [if_neg h]
    by_cases h2 : y < x
    · rw [if_pos h2]; exact .inr (.inl ⟨h2, rfl⟩)
    · rw [if_neg h2]; exact .inr (.inr ⟨by omega, rfl⟩)
theorem cmpV_cases (a b : V) : ((a.1 < b.1 ∨ a.1 = b.1 ∧ a.2 < b.2) ∧ cmpV a b = -1) ∨ ((b.1 < a.1 ∨ a.1 = b.1 ∧ b.2 < a.2) ∧ cmpV a b = 1) ∨ (a = b ∧ cmpV a b = 0) := by
  unfold cmpV
  rcases cmpI_cases a.1 b.1 with ⟨h, e⟩ | ⟨h, e⟩ | ⟨h, e⟩
  · rw [e, if_pos (by decide)]; exact .inl ⟨.inl h, rfl⟩
  · rw [e, if_pos (by decide)]; exact .inr (.inl ⟨.inl h, rfl⟩)
  · rw [e, if_neg (by decide)]
    rcases cmpI_cases a.2 b.2 with ⟨h2, e2⟩ | ⟨h2, e2⟩ | ⟨h2, e2⟩
    · exact .inl ⟨.inr ⟨h, h2⟩, e2⟩
    · exact .inr (.inl ⟨.inr ⟨h, h2⟩, e2⟩)
    · exact .inr (.inr ⟨Prod.ext h h2, e2⟩)
theorem cmpV_same (a : V) : cmpV a a = 0 := by rcases cmpV_cases a a with ⟨h, e⟩ | ⟨h, e⟩ | ⟨h, e⟩ <;> first | exact e | omega
theorem cmpV_zero {a b : V} : cmpV a b = 0 ↔ a = b := by
  constructor
  · intro h
    rcases cmpV_cases a b with ⟨_, e⟩ | ⟨_, e⟩ | ⟨h, _⟩
    · omega
    · omega
    · exact h
  · rintro rfl; exact cmpV_same a
theorem cmpV_range (a b : V) : -1 ≤ cmpV a b ∧ cmpV a b ≤ 1 := by rcases cmpV_cases a b with ⟨_, e⟩ | ⟨_, e⟩ | ⟨_, e⟩ <;> omega
theorem cmpV_anti (a b : V) : cmpV b a = -cmpV a b := by
  rcases cmpV_cases a b with ⟨h, e⟩ | ⟨h, e⟩ | ⟨rfl, e⟩
  · rcases cmpV_cases b a with ⟨h', e'⟩ | ⟨h', e'⟩ | ⟨rfl, e'⟩ <;> omega
  · rcases cmpV_cases b a with ⟨h', e'⟩ | ⟨h', e'⟩ | ⟨rfl, e'⟩ <;> omega
  · rw [e]; rfl
theorem cmpV_trans {a b c : V} (h1 : cmpV a b = -1) (h2 : cmpV b c = -1) : cmpV a c = -1 := by
  rcases cmpV_cases a b with ⟨h, e⟩ | ⟨h, e⟩ | ⟨h, e⟩ <;> rcases cmpV_cases b c with ⟨h', e'⟩ | ⟨h', e'⟩ | ⟨h', e'⟩ <;> rcases cmpV_cases a c with ⟨h'', e''⟩ | ⟨h'', e''⟩ | ⟨h'', e''⟩ <;> first | exact e'' | omega | (subst h''; omega)
theorem cmpL_range : ∀ a b : List V, -1 ≤ cmpL a b ∧ cmpL a b ≤ 1
  | [], [] => by simp [cmpL]
  | [], _ :: _ => by simp [cmpL]
  | _ :: _, [] => by simp [cmpL]
  | a :: l, b :: m => by
    have := cmpL_range l m
    have := cmpV_range a b
    unfold cmpL
    split <;> omega
theorem cmpL_same : ∀ a : List V, cmpL a a = 0
  | [] => rfl
  | a :: l => by unfold cmpL; rw [cmpV_same, if_neg (by decide)]; exact cmpL_same l
theorem cmpL_zero : ∀ {a b : List V}, cmpL a b = 0 ↔ a = b
  | [], [] => by simp [cmpL]
  | [], _ :: _ => by simp [cmpL]
  | _ :: _, [] => by simp [cmpL]
  | a :: l, b :: m => by
    unfold cmpL
    by_cases h : cmpV a b = 0
    · rw [if_neg (by simpa using h), cmpL_zero, cmpV_zero.1 h]; simp
    · rw [if_pos h]
      constructor
      · intro e; exact absurd e h
      · intro e
        have : a = b := by injection e
        exact absurd (cmpV_zero.2 this) h
theorem cmpL_anti : ∀ a b : List V, cmpL b a = -cmpL a b
  | [], [] => rfl
  | [], _ :: _ => rfl
  | _ :: _, [] => rfl
  | a :: l, b :: m => by
    have h := cmpV_anti a b
    unfold cmpL
    by_cases e : cmpV a b = 0
    · rw [if_neg (by omega), if_neg (by simpa using e)]; exact cmpL_anti l m
    · rw [if_pos (by omega), if_pos e]; exact h
theorem cmpL_trans : ∀ {a b c : List V}, cmpL a b = -1 → cmpL b c = -1 → cmpL a c = -1
  | [], [], _, h, _ => by simp [cmpL] at h
  | [], _ :: _, [], _, h => by simp [cmpL] at h
  | [], _ :: _, _ :: _, _, _ => rfl
  | _ :: _, [], _, h, _ => by simp [cmpL] at h
  | _ :: _, _ :: _, [], _, h => by simp [cmpL] at h
  | a :: l, b :: m, c :: n, h1, h2 => by
    unfold cmpL at h1 h2 ⊢
    by_cases e1 : cmpV a b = 0
    · rw [if_neg (by simpa using e1)] at h1
      obtain rfl := cmpV_zero.1 e1
      by_cases e2 : cmpV a c = 0
      · rw [if_neg (by simpa using e2)] at h2 ⊢
        exact cmpL_trans h1 h2
      · rw [if_pos e2] at h2 ⊢
        exact h2
    · rw [if_pos e1] at h1
      by_cases e2 : cmpV b c = 0
      · obtain rfl := cmpV_zero.1 e2
        rw [if_pos e1]; exact h1
      · rw [if_pos e2] at h2
        have := cmpV_trans h1 h2
        rw [if_pos (by omega)]; exact this
/-- What the law asks of three lists. -/
theorem order_law (a b c : List V) : ¬ (cmpL a b ≤ 0 ∧ cmpL b c ≤ 0 ∧ (0 < cmpL a c ∨ (cmpL a c = 0 ∧ cmpL a b + cmpL b c < 0))) := by
  rintro ⟨h1, h2, h3⟩
  have r1 := cmpL_range a b
  have r2 := cmpL_range b c
  have r3 := cmpL_range a c
  by_cases e1 : cmpL a b = 0
  · obtain rfl := cmpL_zero.1 e1
    omega
  · by_cases e2 : cmpL b c = 0
    · obtain rfl := cmpL_zero.1 e2
      omega
    · have := cmpL_trans (a := a) (b := b) (c := c) (by omega) (by omega)
      omega
theorem cmpL_take : ∀ (a : List V) (i : Nat), i < a.length → cmpL (a.take i) a = -1
  | [], _, h => absurd h (by simp)
  | _ :: _, 0, _ => rfl
  | x :: l, i + 1, h => by
    rw [List.take_succ_cons]
    unfold cmpL
    rw [cmpV_same, if_neg (by decide)]
    exact cmpL_take l i (by simpa using h)
theorem cmpL_step {a b : List V} {i : Nat} (ha : i < a.length) (hb : i < b.length) : cmpL (a.drop i) (b.drop i) = if cmpV a[i] b[i] ≠ 0 then cmpV a[i] b[i] else cmpL (a.drop (i + 1)) (b.drop (i + 1)) := by
  rw [List.drop_eq_getElem_cons ha, List.drop_eq_getElem_cons hb, cmpL]
theorem cmpL_short {a b : List V} {i : Nat} (ha : i < a.length) (hb : b.length ≤ i) : cmpL (a.drop i) (b.drop i) = 1 := by
  rw [List.drop_eq_getElem_cons ha, List.drop_eq_nil_of_le hb, cmpL]
theorem cmpL_done {a b : List V} (h : a.length ≤ b.length) : cmpL (a.drop a.length) (b.drop a.length) = if a.length < b.length then -1 else 0 := by
  rw [List.drop_length]
  by_cases e : a.length < b.length
  · rw [List.drop_eq_getElem_cons e, if_pos e, cmpL]
  · rw [List.drop_eq_nil_of_le (by omega), if_neg e, cmpL]
end Go.Sx
