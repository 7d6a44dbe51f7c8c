/-
  Plain facts on permutations: the identity, compositions, powers and the order, inversions.
-/
import Derived.Test.YtpdlnijdcgcfbabDoorEvPermMath
namespace Go.Perm

def ids (n : Nat) : List Int := (List.range n).map fun i : Nat => (i : Int)
theorem ids_length (n : Nat) : (ids n).length = n := by simp [ids]
theorem ids_getD {n k : Nat} (h : k < n) : (ids n).getD k 0 = (k : Int) := by
  unfold ids
  rw [List.getD_eq_getElem?_getD, List.getElem?_map, List.getElem?_range h]
  rfl
theorem ids_take_succ {n k : Nat} (h : k < n) : (ids n).take (k + 1) = (ids n).take k ++ [(k : Int)] := by
  rw [take_snoc (by rw [ids_length]; exact h), ids_getD h]

/-- The first k elements of a list, and zeros. -/
def cp (vs : List Int) (k : Nat) : List Int := vs.take k ++ List.replicate (vs.length - k) 0
theorem cp_zero (vs : List Int) : cp vs 0 = List.replicate vs.length 0 := by simp [cp]
theorem cp_length (vs : List Int) (k : Nat) (h : k ≤ vs.length) : (cp vs k).length = vs.length := by simp [cp]; omega
theorem cp_all (vs : List Int) : cp vs vs.length = vs := by simp [cp]
theorem cp_succ (vs : List Int) (k : Nat) (h : k < vs.length) : cp vs (k + 1) = (cp vs k).set k (vs.getD k 0) := by
  unfold cp
  rw [take_snoc h, List.set_append_right _ _ (by rw [List.length_take]; omega)]
  rw [List.length_take, Nat.min_eq_left (by omega), Nat.sub_self, List.append_assoc]
  congr 1
  rw [show vs.length - k = (vs.length - (k + 1)) + 1 from by omega, List.replicate_succ]
  rfl

/-- First b, then a. -/
def comp (a b : List Int) : List Int := b.map fun q => a.getD q.toNat 0
theorem comp_length (a b : List Int) : (comp a b).length = b.length := by simp [comp]
theorem comp_getD {a b : List Int} {k : Nat} (h : k < b.length) : (comp a b).getD k 0 = a.getD (b.getD k 0).toNat 0 := by
  unfold comp
  rw [List.getD_eq_getElem?_getD, List.getElem?_map, List.getElem?_eq_getElem h]
  simp [List.getD, List.getElem?_eq_getElem h]
/-- Elements that are processes. -/
def Fits (n : Nat) (l : List Int) : Prop := ∀ x ∈ l, 0 ≤ x ∧ x < n
theorem comp_fits {n : Nat} {a b : List Int} (ha : Fits n a) (hb : Fits a.length b) : Fits n (comp a b) := by
  intro x hx
  unfold comp at hx
  obtain ⟨q, hq, rfl⟩ := List.mem_map.1 hx
  exact ha _ (getD_mem (by have := hb q hq; omega))

/-- The power with the exponent j + 1. -/
def pw (a : List Int) : Nat → List Int
  | 0 => a
  | j + 1 => comp a (pw a j)
theorem pw_length (a : List Int) (j : Nat) : (pw a j).length = a.length := by
  induction j with
  | zero => rfl
  | succ j ih => rw [pw, comp_length, ih]
theorem pw_fits {a : List Int} (h : Fits a.length a) (j : Nat) : Fits a.length (pw a j) := by
  induction j with
  | zero => exact h
  | succ j ih => exact comp_fits h ih

theorem nat_of {x : Int} {n : Nat} (h : 0 ≤ x ∧ x < n) : ∃ k, k < n ∧ x = (k : Nat) := ⟨x.toNat, by omega, by omega⟩
def okB (l : List Int) : Bool := !(check l == 0) || (List.range 6).any fun j => pw l j == ids l.length
theorem o1 : ∀ a, a < 1 → okB [((a : Nat) : Int)] = true := by decide +kernel
theorem o2 : ∀ a, a < 2 → ∀ b, b < 2 → okB [((a : Nat) : Int), (b : Nat)] = true := by decide +kernel
theorem o3 : ∀ a, a < 3 → ∀ b, b < 3 → ∀ c, c < 3 → okB [((a : Nat) : Int), (b : Nat), (c : Nat)] = true := by decide +kernel
theorem o4 : ∀ a, a < 4 → ∀ b, b < 4 → ∀ c, c < 4 → ∀ d, d < 4 → okB [((a : Nat) : Int), (b : Nat), (c : Nat), (d : Nat)] = true := by decide +kernel
theorem o5 : ∀ a, a < 5 → ∀ b, b < 5 → ∀ c, c < 5 → ∀ d, d < 5 → ∀ e, e < 5 → okB [((a : Nat) : Int), (b : Nat), (c : Nat), (d : Nat), (e : Nat)] = true := by decide +kernel
theorem ok_all {l : List Int} (h : check l = 0) : okB l = true := by
  obtain ⟨h1, h5, hr, _⟩ := check_ok h
  match l, h1, h5, hr with
  | [a], _, _, hr =>
    obtain ⟨x, hx, rfl⟩ := nat_of (hr a (by simp))
    exact o1 x hx
  | [a, b], _, _, hr =>
    obtain ⟨x, hx, rfl⟩ := nat_of (hr a (by simp)); obtain ⟨y, hy, rfl⟩ := nat_of (hr b (by simp))
    exact o2 x hx y hy
  | [a, b, c], _, _, hr =>
    obtain ⟨x, hx, rfl⟩ := nat_of (hr a (by simp)); obtain ⟨y, hy, rfl⟩ := nat_of (hr b (by simp)); obtain ⟨z, hz, rfl⟩ := nat_of (hr c (by simp))
    exact o3 x hx y hy z hz
  | [a, b, c, d], _, _, hr =>
    obtain ⟨x, hx, rfl⟩ := nat_of (hr a (by simp)); obtain ⟨y, hy, rfl⟩ := nat_of (hr b (by simp)); obtain ⟨z, hz, rfl⟩ := nat_of (hr c (by simp)); obtain ⟨u, hu, rfl⟩ := nat_of (hr d (by simp))
    exact o4 x hx y hy z hz u hu
  | [a, b, c, d, e], _, _, hr =>
    obtain ⟨x, hx, rfl⟩ := nat_of (hr a (by simp)); obtain ⟨y, hy, rfl⟩ := nat_of (hr b (by simp)); obtain ⟨z, hz, rfl⟩ := nat_of (hr c (by simp)); obtain ⟨u, hu, rfl⟩ := nat_of (hr d (by simp)); obtain ⟨t, ht, rfl⟩ := nat_of (hr e (by simp))
    exact o5 x hx y hy z hz u hu t ht
  | _ :: _ :: _ :: _ :: _ :: _ :: _, _, h5, _ => exact absurd h5 (by simp)
theorem ord_exists {l : List Int} (h : check l = 0) : ∃ j, j < 6 ∧ pw l j = ids l.length := by
  have := ok_all h
  unfold okB at this
  rw [h] at this
  simp only [beq_self_eq_true, Bool.not_true, Bool.false_or, List.any_eq_true, List.mem_range, beq_iff_eq] at this
  exact this
/-- The least exponent whose power is the identity. -/
def ord (l : List Int) : Nat := ((List.range 6).find? fun j => decide (pw l j = ids l.length)).getD 0 + 1
theorem ord_of {l : List Int} {j : Nat} (h6 : j < 6) (h : pw l j = ids l.length) (hm : ∀ i, i < j → pw l i ≠ ids l.length) : ord l = j + 1 := by
  unfold ord
  have : (List.range 6).find? (fun j => decide (pw l j = ids l.length)) = some j := by
    rw [List.find?_range_eq_some]
    exact ⟨by simpa using h, by simpa using h6, fun i hi => by simpa using hm i hi⟩
  rw [this]; rfl

/-! Inversions. -/
def inner (l : List Int) (q : Nat) : Nat → Bool → Bool
  | 0, o => o
  | p + 1, o => if l.getD q 0 < l.getD p 0 then !(inner l q p o) else inner l q p o
def outer (l : List Int) : Nat → Bool
  | 0 => false
  | q + 1 => inner l q q (outer l q)
end Go.Perm
