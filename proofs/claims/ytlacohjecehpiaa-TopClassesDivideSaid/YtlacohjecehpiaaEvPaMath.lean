/-
  Partitions as label vectors: the plain mathematics.
-/
set_option linter.unusedSectionVars false
set_option linter.unusedSimpArgs false
namespace Go.Part

section
variable {α β : Type} [DecidableEq α] [DecidableEq β]

/-- The least place below n with key x. -/
def fnd (f : Nat → α) (x : α) : Nat → Option Nat
  | 0 => none
  | n + 1 => match fnd f x n with
    | some k => some k
    | none => if f n = x then some n else none

theorem fnd_none {f : Nat → α} {x : α} : ∀ {n : Nat}, fnd f x n = none ↔ ∀ j, j < n → f j ≠ x
  | 0 => by simp [fnd]
  | n + 1 => by
    have ih := @fnd_none f x n
    unfold fnd
    cases h : fnd f x n with
    | some k =>
      simp only [reduceCtorEq, false_iff]
      intro hh
      rw [h] at ih
      exact absurd (ih.2 fun j hj => hh j (by omega)) (by simp)
    | none =>
      have ih' := ih.1 h
      by_cases e : f n = x
      · simp only [if_pos e, reduceCtorEq, false_iff]
        intro hh; exact hh n (by omega) e
      · simp only [if_neg e, true_iff]
        intro j hj
        by_cases hjn : j = n
        · subst hjn; exact e
        · exact ih' j (by omega)
theorem fnd_some {f : Nat → α} {x : α} : ∀ {n k : Nat}, fnd f x n = some k → k < n ∧ f k = x ∧ fnd f x k = none
  | 0, k, h => by simp [fnd] at h
  | n + 1, k, h => by
    unfold fnd at h
    cases h0 : fnd f x n with
    | some k' =>
      rw [h0] at h
      simp only [Option.some.injEq] at h
      subst h
      obtain ⟨h1, h2, h3⟩ := fnd_some h0
      exact ⟨by omega, h2, h3⟩
    | none =>
      rw [h0] at h
      by_cases e : f n = x
      · simp only [if_pos e, Option.some.injEq] at h
        subst h
        exact ⟨by omega, e, h0⟩
      · simp [if_neg e] at h
theorem fnd_up {f : Nat → α} {x : α} {n k : Nat} (h : fnd f x n = some k) : ∀ d, fnd f x (n + d) = some k
  | 0 => h
  | d + 1 => by
    have := fnd_up h d
    rw [show n + (d + 1) = (n + d) + 1 by omega]
    unfold fnd
    rw [this]
theorem fnd_mono {f : Nat → α} {x : α} {n m k : Nat} (h : fnd f x n = some k) (hm : n ≤ m) : fnd f x m = some k := by
  have := fnd_up h (m - n)
  rwa [show n + (m - n) = m by omega] at this
theorem fnd_at {f : Nat → α} {x : α} {n k : Nat} (hk : k < n) (he : f k = x) (hn : fnd f x k = none) : fnd f x n = some k := by
  have : fnd f x (k + 1) = some k := by unfold fnd; rw [hn]; simp [he]
  exact fnd_mono this (by omega)

/-- How many different keys are below n. -/
def cnt (f : Nat → α) : Nat → Nat
  | 0 => 0
  | n + 1 => cnt f n + if fnd f (f n) n = none then 1 else 0
theorem cnt_fresh {f : Nat → α} {n : Nat} (h : fnd f (f n) n = none) : cnt f (n + 1) = cnt f n + 1 := by simp [cnt, h]
theorem cnt_old {f : Nat → α} {n k : Nat} (h : fnd f (f n) n = some k) : cnt f (n + 1) = cnt f n := by simp [cnt, h]
theorem cnt_le (f : Nat → α) (n : Nat) : cnt f n ≤ n := by
  induction n with
  | zero => simp [cnt]
  | succ n ih => unfold cnt; split <;> omega
theorem cnt_step (f : Nat → α) (n : Nat) : cnt f n ≤ cnt f (n + 1) := by
  show cnt f n ≤ cnt f n + _
  omega
theorem cnt_mono (f : Nat → α) {n m : Nat} (h : n ≤ m) : cnt f n ≤ cnt f m := by
  induction m with
  | zero => have : n = 0 := by omega
            subst this; exact Nat.le_refl _
  | succ m ih =>
    by_cases e : n = m + 1
    · subst e; exact Nat.le_refl _
    · exact Nat.le_trans (ih (by omega)) (cnt_step f m)
theorem cnt_lt {f : Nat → α} {n m : Nat} (hf : fnd f (f n) n = none) (h : n < m) : cnt f n < cnt f m := by
  have := cnt_mono f (show n + 1 ≤ m by omega)
  rw [cnt_fresh hf] at this
  omega

/-- The first place with the key of i. -/
def plc (f : Nat → α) (i : Nat) : Nat := (fnd f (f i) i).getD i
theorem plc_some {f : Nat → α} {i k : Nat} (h : fnd f (f i) i = some k) : plc f i = k := by simp [plc, h]
theorem plc_none {f : Nat → α} {i : Nat} (h : fnd f (f i) i = none) : plc f i = i := by simp [plc, h]
theorem plc_le (f : Nat → α) (i : Nat) : plc f i ≤ i := by
  cases h : fnd f (f i) i with
  | none => rw [plc_none h]; exact Nat.le_refl _
  | some k => rw [plc_some h]; have := (fnd_some h).1; omega
theorem plc_key (f : Nat → α) (i : Nat) : f (plc f i) = f i := by
  cases h : fnd f (f i) i with
  | none => rw [plc_none h]
  | some k => rw [plc_some h]; exact (fnd_some h).2.1
theorem plc_fresh (f : Nat → α) (i : Nat) : fnd f (f i) (plc f i) = none := by
  cases h : fnd f (f i) i with
  | none => rw [plc_none h]; exact h
  | some k => rw [plc_some h]; exact (fnd_some h).2.2
theorem plc_eq {f : Nat → α} {i j : Nat} (h : f i = f j) : plc f i = plc f j := by
  have key : ∀ i j : Nat, f i = f j → plc f i ≤ plc f j := by
    intro i j h
    rcases Nat.lt_or_ge (plc f j) (plc f i) with hlt | hge
    · exact absurd (by rw [plc_key f j, h]) (fnd_none.1 (plc_fresh f i) _ hlt)
    · exact hge
  exact Nat.le_antisymm (key i j h) (key j i h.symm)

/-- The label of element i. -/
def lab (f : Nat → α) (i : Nat) : Nat := cnt f (plc f i)
theorem lab_old {f : Nat → α} {i k : Nat} (h : fnd f (f i) i = some k) : lab f i = cnt f k := by rw [lab, plc_some h]
theorem lab_new {f : Nat → α} {i : Nat} (h : fnd f (f i) i = none) : lab f i = cnt f i := by rw [lab, plc_none h]
theorem lab_le (f : Nat → α) (i : Nat) : lab f i ≤ cnt f i := cnt_mono f (plc_le f i)
theorem lab_lt (f : Nat → α) {i n : Nat} (h : i < n) : lab f i < cnt f n := by
  refine cnt_lt ?_ (Nat.lt_of_le_of_lt (plc_le f i) h)
  rw [plc_key f i]; exact plc_fresh f i
theorem lab_iff (f : Nat → α) (i j : Nat) : lab f i = lab f j ↔ f i = f j := by
  constructor
  · intro h
    have fi : fnd f (f (plc f i)) (plc f i) = none := by rw [plc_key f i]; exact plc_fresh f i
    have fj : fnd f (f (plc f j)) (plc f j) = none := by rw [plc_key f j]; exact plc_fresh f j
    have : plc f i = plc f j := by
      rcases Nat.lt_trichotomy (plc f i) (plc f j) with hlt | he | hgt
      · exact absurd h (Nat.ne_of_lt (cnt_lt fi hlt))
      · exact he
      · exact absurd h.symm (Nat.ne_of_lt (cnt_lt fj hgt))
    rw [← plc_key f i, this, plc_key f j]
  · intro h; rw [lab, lab, plc_eq h]
theorem lab_at {f : Nat → α} {k : Nat} (h : fnd f (f k) k = none) : lab f k = cnt f k := lab_new h
theorem lab_eq_cnt {f : Nat → α} {i : Nat} (h : lab f i = cnt f i) : fnd f (f i) i = none := by
  cases h0 : fnd f (f i) i with
  | none => rfl
  | some k =>
    obtain ⟨h1, h2, h3⟩ := fnd_some h0
    rw [lab_old h0] at h
    have := cnt_lt (f := f) (n := k) (m := i) (by rw [h2]; exact h3) h1
    omega
theorem lab_onto (f : Nat → α) : ∀ {n v : Nat}, v < cnt f n → ∃ j, j < n ∧ lab f j = v
  | 0, v, h => by simp [cnt] at h
  | n + 1, v, h => by
    cases h0 : fnd f (f n) n with
    | none =>
      rw [cnt_fresh h0] at h
      by_cases e : v = cnt f n
      · exact ⟨n, by omega, by rw [lab_new h0, e]⟩
      · obtain ⟨j, h1, h2⟩ := lab_onto f (n := n) (v := v) (by omega)
        exact ⟨j, by omega, h2⟩
    | some k =>
      rw [cnt_old h0] at h
      obtain ⟨j, h1, h2⟩ := lab_onto f h
      exact ⟨j, by omega, h2⟩

/-- The same elements are together. -/
def Eqv (n : Nat) (f : Nat → α) (g : Nat → β) : Prop := ∀ i j, i < n → j < n → (f i = f j ↔ g i = g j)
theorem Eqv.none {n : Nat} {f : Nat → α} {g : Nat → β} (h : Eqv n f g) {i k : Nat} (hi : i < n) (hk : k ≤ n) : fnd f (f i) k = .none ↔ fnd g (g i) k = .none := by
  rw [fnd_none, fnd_none]
  exact ⟨fun hh j hj e => hh j hj ((h j i (by omega) hi).2 e), fun hh j hj e => hh j hj ((h j i (by omega) hi).1 e)⟩
theorem Eqv.cnt {n : Nat} {f : Nat → α} {g : Nat → β} (h : Eqv n f g) : ∀ {m : Nat}, m ≤ n → cnt f m = cnt g m
  | 0, _ => rfl
  | m + 1, hm => by
    unfold Part.cnt
    rw [h.cnt (show m ≤ n by omega)]
    have := h.none (i := m) (k := m) (by omega) (by omega)
    by_cases e : fnd f (f m) m = .none
    · rw [if_pos e, if_pos (this.1 e)]
    · rw [if_neg e, if_neg (fun h => e (this.2 h))]
theorem Eqv.plc {n : Nat} {f : Nat → α} {g : Nat → β} (h : Eqv n f g) {i : Nat} (hi : i < n) : plc f i = plc g i := by
  have hp := plc_le f i
  have hq := plc_le g i
  rcases Nat.lt_trichotomy (Part.plc f i) (Part.plc g i) with hlt | he | hgt
  · exact absurd ((h _ _ (by omega) hi).1 (plc_key f i)) (fnd_none.1 (plc_fresh g i) _ hlt)
  · exact he
  · exact absurd ((h _ _ (by omega) hi).2 (plc_key g i)) (fnd_none.1 (plc_fresh f i) _ hgt)
theorem Eqv.lab {n : Nat} {f : Nat → α} {g : Nat → β} (h : Eqv n f g) {i : Nat} (hi : i < n) : lab f i = lab g i := by
  rw [Part.lab, Part.lab, h.plc hi, h.cnt (Nat.le_of_lt (Nat.lt_of_le_of_lt (plc_le g i) hi))]
theorem Eqv.symm {n : Nat} {f : Nat → α} {g : Nat → β} (h : Eqv n f g) : Eqv n g f := fun i j hi hj => (h i j hi hj).symm
theorem Eqv.refl (n : Nat) (f : Nat → α) : Eqv n f f := fun _ _ _ _ => Iff.rfl
/-- Fewer are together: more keys. -/
theorem cnt_finer {n : Nat} {f : Nat → α} {g : Nat → β} (h : ∀ i j, i < n → j < n → f i = f j → g i = g j) : ∀ {m : Nat}, m ≤ n → cnt g m ≤ cnt f m
  | 0, _ => Nat.le_refl _
  | m + 1, hm => by
    have ih := cnt_finer h (show m ≤ n by omega)
    unfold cnt
    by_cases e : fnd g (g m) m = .none
    · have : fnd f (f m) m = .none := fnd_none.2 fun j hj he => fnd_none.1 e j hj (h j m (by omega) (by omega) he)
      rw [if_pos e, if_pos this]; omega
    · rw [if_neg e]; omega
end

/-- The labels of n elements, as a list. -/
def labs {α : Type} [DecidableEq α] (f : Nat → α) (n : Nat) : List Int := (List.range n).map fun i => (lab f i : Int)
section
variable {α β : Type} [DecidableEq α] [DecidableEq β]
@[simp] theorem labs_length (f : Nat → α) (n : Nat) : (labs f n).length = n := by simp [labs]
theorem labs_getD (f : Nat → α) {n i : Nat} (h : i < n) : (labs f n).getD i 0 = lab f i := by
  simp [labs, List.getD_eq_getElem?_getD, List.getElem?_range, h]
theorem labs_getElem? (f : Nat → α) {n i : Nat} (h : i < n) : (labs f n)[i]? = some (lab f i : Int) := by
  simp [labs, List.getElem?_range, h]
theorem labs_succ (f : Nat → α) (n : Nat) : labs f (n + 1) = labs f n ++ [(lab f n : Int)] := by simp [labs, List.range_succ]
theorem labs_eqv {n : Nat} {f : Nat → α} {g : Nat → β} (h : Eqv n f g) : labs f n = labs g n := by
  apply List.ext_getElem? ; intro i
  by_cases hi : i < n
  · rw [labs_getElem? f hi, labs_getElem? g hi, h.lab hi]
  · rw [List.getElem?_eq_none (by simp; omega), List.getElem?_eq_none (by simp; omega)]
theorem eqv_labs {n : Nat} {f : Nat → α} {g : Nat → β} (h : labs f n = labs g n) : Eqv n f g := by
  intro i j hi hj
  rw [← lab_iff f i j, ← lab_iff g i j]
  have h1 := labs_getD f hi; have h2 := labs_getD g hi; have h3 := labs_getD f hj; have h4 := labs_getD g hj
  rw [h] at h1 h3
  omega
end

/-- A list as a function. -/
abbrev fn (l : List Int) : Nat → Int := fun k => l.getD k 0
theorem labs_eqv_self {α : Type} [DecidableEq α] (f : Nat → α) (n : Nat) : Eqv n (fn (labs f n)) f := by
  intro i j hi hj
  show (labs f n).getD i 0 = (labs f n).getD j 0 ↔ _
  rw [labs_getD f hi, labs_getD f hj, ← lab_iff f i j]; omega

/-- Well-formed: each label is its own one. -/
def wf (l : List Int) : Prop := labs (fn l) l.length = l
theorem wf_labs {α : Type} [DecidableEq α] (f : Nat → α) (n : Nat) : wf (labs f n) := by
  unfold wf; rw [labs_length]; exact labs_eqv (labs_eqv_self f n)
theorem wf_getD {l : List Int} (h : wf l) {i : Nat} (hi : i < l.length) : l.getD i 0 = lab (fn l) i := by
  have := labs_getD (fn l) hi
  rw [h] at this; exact this
theorem wf_of {l : List Int} (h : ∀ i, i < l.length → l.getD i 0 = lab (fn l) i) : wf l := by
  unfold wf
  apply List.ext_getElem?; intro i
  by_cases hi : i < l.length
  · rw [labs_getElem? _ hi, ← h i hi, List.getD_eq_getElem?_getD, List.getElem?_eq_getElem hi]; rfl
  · rw [List.getElem?_eq_none (by simp; omega), List.getElem?_eq_none (by omega)]

/-- The check of the rest of a list. -/
def chkFrom (next : Int) : List Int → Int
  | [] => 0
  | x :: r => if x < 0 then 2 else if x > next then 14 else chkFrom (if x = next then next + 1 else next) r
theorem drop_cons {l : List Int} {k : Nat} (h : k < l.length) : l.drop k = l.getD k 0 :: l.drop (k + 1) := by
  rw [List.drop_eq_getElem_cons h]; simp [List.getD, List.getElem?_eq_getElem h]
theorem chk_wf {l : List Int} : ∀ (m k : Nat), m + k = l.length → (∀ i, i < k → l.getD i 0 = lab (fn l) i) → chkFrom (cnt (fn l) k) (l.drop k) = 0 → wf l
  | 0, k, hm, h, _ => wf_of fun i hi => h i (by omega)
  | m + 1, k, hm, h, hc => by
    have hk : k < l.length := by omega
    rw [drop_cons hk] at hc
    unfold chkFrom at hc
    by_cases h1 : l.getD k 0 < 0
    · rw [if_pos h1] at hc; cases hc
    · rw [if_neg h1] at hc
      by_cases h2 : l.getD k 0 > (cnt (fn l) k : Int)
      · rw [if_pos h2] at hc; cases hc
      · rw [if_neg h2] at hc
        by_cases h3 : l.getD k 0 = (cnt (fn l) k : Int)
        · have hf : fnd (fn l) (fn l k) k = none := fnd_none.2 fun j hj e => by
            have e1 : l.getD j 0 = l.getD k 0 := e
            rw [h j hj, h3] at e1
            have := lab_lt (fn l) hj
            omega
          rw [if_pos h3] at hc
          refine chk_wf m (k + 1) (by omega) (fun i hi => ?_) (by rw [cnt_fresh hf]; push_cast; exact hc)
          by_cases e : i = k
          · subst e; rw [h3, lab_new hf]
          · exact h i (by omega)
        · rw [if_neg h3] at hc
          obtain ⟨v, hv⟩ := Int.eq_ofNat_of_zero_le (show 0 ≤ l.getD k 0 by omega)
          obtain ⟨j, hj, hl⟩ := lab_onto (fn l) (n := k) (v := v) (by omega)
          have e1 : fn l j = fn l k := by show l.getD j 0 = l.getD k 0; rw [h j hj, hl, hv]
          obtain ⟨q, hq⟩ : ∃ q, fnd (fn l) (fn l k) k = some q := by
            cases h0 : fnd (fn l) (fn l k) k with
            | none => exact absurd e1 (fnd_none.1 h0 j hj)
            | some q => exact ⟨q, rfl⟩
          refine chk_wf m (k + 1) (by omega) (fun i hi => ?_) (by rw [cnt_old hq]; exact hc)
          by_cases e : i = k
          · subst e
            rw [← (lab_iff (fn l) j i).2 e1, hl, hv]
          · exact h i (by omega)
theorem wf_chk {l : List Int} (h : wf l) : ∀ (m k : Nat), m + k = l.length → chkFrom (cnt (fn l) k) (l.drop k) = 0
  | 0, k, hm => by rw [List.drop_eq_nil_of_le (by omega)]; rfl
  | m + 1, k, hm => by
    have hk : k < l.length := by omega
    rw [drop_cons hk]
    unfold chkFrom
    have h0 := wf_getD h hk
    have h1 := lab_le (fn l) k
    have ih := wf_chk h m (k + 1) (by omega)
    rw [if_neg (by omega), if_neg (by omega)]
    by_cases e : l.getD k 0 = (cnt (fn l) k : Int)
    · rw [if_pos e]
      have := lab_eq_cnt (f := fn l) (i := k) (by omega)
      rw [cnt_fresh this] at ih
      push_cast at ih; exact ih
    · rw [if_neg e]
      cases h2 : fnd (fn l) (fn l k) k with
      | none => exact absurd (by rw [h0, lab_new h2]) e
      | some q => rw [cnt_old h2] at ih; exact ih
/-- The code of the check, for lists that are not too long. -/
def chk (l : List Int) : Int := chkFrom 0 l
theorem chk_iff {l : List Int} : chk l = 0 ↔ wf l :=
  ⟨fun h => chk_wf (l := l) l.length 0 (by omega) (fun i hi => absurd hi (by omega)) (by simpa [cnt, chk] using h), fun h => by have := wf_chk h l.length 0 (by omega); simpa [cnt, chk] using this⟩

theorem wf_bound {l : List Int} (h : wf l) : ∀ x ∈ l, 0 ≤ x ∧ x < (cnt (fn l) l.length : Int) := by
  intro x hx
  obtain ⟨i, hi, rfl⟩ := List.mem_iff_getElem.1 hx
  have := wf_getD h hi
  have h2 := lab_lt (fn l) hi
  rw [show l[i] = l.getD i 0 by simp [List.getD, List.getElem?_eq_getElem hi]]
  omega
theorem wf_labels_eqv {l : List Int} (h : wf l) : labs (fn l) l.length = l := h
theorem eq_of_eqv {a b : List Int} (ha : wf a) (hb : wf b) (hl : a.length = b.length) (h : Eqv a.length (fn a) (fn b)) : a = b := by
  rw [← ha, ← hb, ← hl]; exact labs_eqv h

/-! ### Joins -/
inductive Conn (n : Nat) (a b : Nat → Int) : Nat → Nat → Prop
  | refl (i : Nat) : Conn n a b i i
  | symm {i j : Nat} : Conn n a b i j → Conn n a b j i
  | trans {i j k : Nat} : Conn n a b i j → Conn n a b j k → Conn n a b i k
  | left {i j : Nat} : i < n → j < n → a i = a j → Conn n a b i j
  | right {i j : Nat} : i < n → j < n → b i = b j → Conn n a b i j
/-- Whatever is the same on both kinds of steps is the same. -/
theorem Conn.same {n : Nat} {a b : Nat → Int} {γ : Type} {r : Nat → γ} (ha : ∀ i j, i < n → j < n → a i = a j → r i = r j) (hb : ∀ i j, i < n → j < n → b i = b j → r i = r j) {i j : Nat} (h : Conn n a b i j) : r i = r j := by
  induction h with
  | refl i => rfl
  | symm _ ih => exact ih.symm
  | trans _ _ ih1 ih2 => exact ih1.trans ih2
  | left hi hj e => exact ha _ _ hi hj e
  | right hi hj e => exact hb _ _ hi hj e
theorem Conn.into {n : Nat} {a b c d : Nat → Int} (ha : ∀ i j, i < n → j < n → a i = a j → Conn n c d i j) (hb : ∀ i j, i < n → j < n → b i = b j → Conn n c d i j) {i j : Nat} (h : Conn n a b i j) : Conn n c d i j := by
  induction h with
  | refl i => exact .refl i
  | symm _ ih => exact ih.symm
  | trans _ _ ih1 ih2 => exact ih1.trans ih2
  | left hi hj e => exact ha _ _ hi hj e
  | right hi hj e => exact hb _ _ hi hj e
/-- A list that labels a join. -/
def IsJoin (n : Nat) (a b : Nat → Int) (r : Nat → Nat) : Prop := ∀ i j, i < n → j < n → (r i = r j ↔ Conn n a b i j)

/-- The root of an element in a forest. -/
def root (p : Nat → Nat) (i : Nat) : Nat := if _h : p i < i then root p (p i) else i
termination_by i
theorem root_step {p : Nat → Nat} {i : Nat} (h : p i < i) : root p i = root p (p i) := by rw [root, dif_pos h]
theorem root_stop {p : Nat → Nat} {i : Nat} (h : ¬ p i < i) : root p i = i := by rw [root, dif_neg h]
theorem root_self {p : Nat → Nat} {i : Nat} (h : p i = i) : root p i = i := root_stop (by omega)
theorem root_up {p : Nat → Nat} (hp : ∀ i, p i ≤ i) (i : Nat) : root p (p i) = root p i := by
  by_cases h : p i < i
  · rw [root_step h]
  · have : p i = i := Nat.le_antisymm (hp i) (by omega)
    rw [this]
theorem root_le (p : Nat → Nat) : ∀ i, root p i ≤ i := by
  intro i
  induction i using Nat.strongRecOn with
  | _ i ih =>
    by_cases h : p i < i
    · rw [root_step h]; exact Nat.le_trans (ih _ h) (by omega)
    · rw [root_stop h]; exact Nat.le_refl _
theorem root_fix {p : Nat → Nat} (hp : ∀ i, p i ≤ i) : ∀ i, p (root p i) = root p i := by
  intro i
  induction i using Nat.strongRecOn with
  | _ i ih =>
    by_cases h : p i < i
    · rw [root_step h]; exact ih _ h
    · rw [root_stop h]; exact Nat.le_antisymm (hp i) (by omega)
def upd (p : Nat → Nat) (i v : Nat) : Nat → Nat := fun j => if j = i then v else p j
theorem root_halve {p : Nat → Nat} (hp : ∀ i, p i ≤ i) (i : Nat) : ∀ j, root (upd p i (p (p i))) j = root p j := by
  intro j
  induction j using Nat.strongRecOn with
  | _ j ih =>
    by_cases h : upd p i (p (p i)) j < j
    · rw [root_step h, ih _ h]
      unfold upd
      by_cases e : j = i
      · rw [if_pos e, root_up hp, root_up hp, e]
      · rw [if_neg e, root_up hp]
    · rw [root_stop h]
      unfold upd at h
      by_cases e : j = i
      · rw [if_pos e] at h
        have h1 := hp i
        have h2 := hp (p i)
        exact (root_self (by rw [e]; omega)).symm
      · rw [if_neg e] at h
        exact (root_stop h).symm
theorem upd_le {p : Nat → Nat} (hp : ∀ i, p i ≤ i) {i v : Nat} (hv : v ≤ i) : ∀ j, upd p i v j ≤ j := by
  intro j; unfold upd; split
  · omega
  · exact hp j
theorem root_join {p : Nat → Nat} {x y : Nat} (hx : p x = x) (hy : p y = y) (hxy : x ≤ y) : ∀ j, root (upd p y x) j = if root p j = y then x else root p j := by
  intro j
  induction j using Nat.strongRecOn with
  | _ j ih =>
    by_cases e : j = y
    · subst e
      rw [root_self hy, if_pos rfl]
      by_cases h : x = j
      · subst h
        exact root_self (by simp [upd])
      · have h1 : upd p j x j < j := by simp [upd]; omega
        rw [root_step h1]
        have h2 : upd p j x j = x := by simp [upd]
        rw [h2, ih x (by omega), root_self hx, if_neg h]
    · have h0 : upd p y x j = p j := by simp [upd, e]
      by_cases h : p j < j
      · rw [root_step (show upd p y x j < j by rw [h0]; exact h), h0, ih _ h, root_step h]
      · rw [root_stop (show ¬ upd p y x j < j by rw [h0]; exact h), root_stop h, if_neg e]
end Go.Part
