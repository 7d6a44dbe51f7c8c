/-
  Plain facts: inverses of permutations; renamed graphs.
-/
import Derived.Test.YtgkgdobmiejdhaaEvGPermMath
import Derived.Test.YtgkgdobmiejdhaaEvGRenPlain
namespace Go.Perm
def ids (n : Nat) : List Int := (List.range n).map fun i : Nat => (i : Int)
theorem ids_length (n : Nat) : (ids n).length = n := by simp [ids]
theorem ids_getD {n k : Nat} (h : k < n) : (ids n).getD k 0 = (k : Int) := by
  unfold ids
  rw [List.getD_eq_getElem?_getD, List.getElem?_map, List.getElem?_range h]
  rfl
theorem nat_of {x : Int} {n : Nat} (h : 0 ≤ x ∧ x < n) : ∃ k, k < n ∧ x = (k : Nat) := ⟨x.toNat, by omega, by omega⟩
def at_ (l : List Int) (k : Nat) : Nat := (l.getD k 0).toNat
def okV (l : List Int) : Bool := !(check l == 0) || (check (mv l (ids l.length) l.length) == 0 && (List.range l.length).all fun k => at_ (mv l (ids l.length) l.length) (at_ l k) == k && at_ l (at_ (mv l (ids l.length) l.length) k) == k && decide (at_ (mv l (ids l.length) l.length) k < l.length))
theorem v1 : ∀ a, a < 1 → okV [((a : Nat) : Int)] = true := by decide +kernel
theorem v2 : ∀ a, a < 2 → ∀ b, b < 2 → okV [((a : Nat) : Int), (b : Nat)] = true := by decide +kernel
theorem v3 : ∀ a, a < 3 → ∀ b, b < 3 → ∀ c, c < 3 → okV [((a : Nat) : Int), (b : Nat), (c : Nat)] = true := by decide +kernel
theorem v4 : ∀ a, a < 4 → ∀ b, b < 4 → ∀ c, c < 4 → ∀ d, d < 4 → okV [((a : Nat) : Int), (b : Nat), (c : Nat), (d : Nat)] = true := by decide +kernel
theorem v5 : ∀ a, a < 5 → ∀ b, b < 5 → ∀ c, c < 5 → ∀ d, d < 5 → ∀ e, e < 5 → okV [((a : Nat) : Int), (b : Nat), (c : Nat), (d : Nat), (e : Nat)] = true := by decide +kernel
theorem okV_all {l : List Int} (h : check l = 0) : okV l = true := by
  obtain ⟨h1, h5, hr, _⟩ := check_ok h
  match l, h1, h5, hr with
  | [a], _, _, hr =>
    obtain ⟨x, hx, rfl⟩ := nat_of (hr a (by simp))
    exact v1 x hx
  | [a, b], _, _, hr =>
    obtain ⟨x, hx, rfl⟩ := nat_of (hr a (by simp)); obtain ⟨y, hy, rfl⟩ := nat_of (hr b (by simp))
    exact v2 x hx y hy
  | [a, b, c], _, _, hr =>
    obtain ⟨x, hx, rfl⟩ := nat_of (hr a (by simp)); obtain ⟨y, hy, rfl⟩ := nat_of (hr b (by simp)); obtain ⟨z, hz, rfl⟩ := nat_of (hr c (by simp))
    exact v3 x hx y hy z hz
  | [a, b, c, d], _, _, hr =>
    obtain ⟨x, hx, rfl⟩ := nat_of (hr a (by simp)); obtain ⟨y, hy, rfl⟩ := nat_of (hr b (by simp)); obtain ⟨z, hz, rfl⟩ := nat_of (hr c (by simp)); obtain ⟨u, hu, rfl⟩ := nat_of (hr d (by simp))
    exact v4 x hx y hy z hz u hu
  | [a, b, c, d, e], _, _, hr =>
    obtain ⟨x, hx, rfl⟩ := nat_of (hr a (by simp)); obtain ⟨y, hy, rfl⟩ := nat_of (hr b (by simp)); obtain ⟨z, hz, rfl⟩ := nat_of (hr c (by simp)); obtain ⟨u, hu, rfl⟩ := nat_of (hr d (by simp)); obtain ⟨t, ht, rfl⟩ := nat_of (hr e (by simp))
    exact v5 x hx y hy z hz u hu t ht
  | _ :: _ :: _ :: _ :: _ :: _ :: _, _, h5, _ => exact absurd h5 (by simp)
theorem inverse {l : List Int} (h : check l = 0) : check (mv l (ids l.length) l.length) = 0 ∧ ∀ k, k < l.length → at_ (mv l (ids l.length) l.length) (at_ l k) = k ∧ at_ l (at_ (mv l (ids l.length) l.length) k) = k ∧ at_ (mv l (ids l.length) l.length) k < l.length := by
  have := okV_all h
  unfold okV at this
  rw [h] at this
  simp only [beq_self_eq_true, Bool.not_true, Bool.false_or, Bool.and_eq_true, beq_iff_eq, List.all_eq_true, List.mem_range, decide_eq_true_eq] at this
  exact ⟨this.1, fun k hk => ⟨(this.2 k hk).1.1, (this.2 k hk).1.2, (this.2 k hk).2⟩⟩
end Go.Perm
namespace Go.Graph
/-- π and τ undo each other below n. -/
structure Undo (n : Nat) (π τ : Nat → Nat) : Prop where
  lt : ∀ i, i < n → π i < n
  lt' : ∀ i, i < n → τ i < n
  left : ∀ i, i < n → τ (π i) = i
  right : ∀ i, i < n → π (τ i) = i
theorem Undo.inj {n : Nat} {π τ : Nat → Nat} (h : Undo n π τ) {i j : Nat} (hi : i < n) (hj : j < n) (e : π i = π j) : i = j := by rw [← h.left i hi, ← h.left j hj, e]
theorem WF.ren {n : Nat} {r π τ : Nat → Nat} (h : WF n r) (u : Undo n π τ) : WF n (ren n r π) where
  pos := h.pos
  top := h.top
  low i _ := (accTo_lt u.lt n (Nat.le_refl _)).1 i
  self i hi := by rw [ren_bit]; exact ⟨τ i, u.lt' i hi, τ i, u.lt' i hi, h.self _ (u.lt' i hi), (u.right i hi).symm, (u.right i hi).symm⟩
  out i hi := (accTo_lt u.lt n (Nat.le_refl _)).2 i hi
theorem ren_prod {n : Nat} {a b π τ : Nat → Nat} (ha : WF n a) (u : Undo n π τ) : ren n (prod n a b) π = prod n (ren n a π) (ren n b π) := by
  apply rows_eq
  intro i j
  simp only [prod_bit, ren_bit]
  constructor
  · rintro ⟨x, hx, k, hk, ⟨_, m, hm, h1, h2⟩, rfl, rfl⟩
    exact ⟨u.lt x hx, π m, u.lt m hm, ⟨x, hx, m, hm, h1, rfl, rfl⟩, m, hm, k, hk, h2, rfl, rfl⟩
  · rintro ⟨_, m', _, ⟨x, hx, m, hm, h1, rfl, rfl⟩, y, hy, k, hk, h2, e, rfl⟩
    have := u.inj hm hy e
    subst this
    exact ⟨x, hx, k, hk, ⟨hx, m, hm, h1, h2⟩, rfl, rfl⟩
theorem ren_ren {n : Nat} {a π τ : Nat → Nat} (ha : WF n a) (u : Undo n π τ) : ren n (ren n a π) τ = a := by
  apply rows_eq
  intro i j
  simp only [ren_bit]
  constructor
  · rintro ⟨x', _, k', _, ⟨x, hx, k, hk, h, rfl, rfl⟩, rfl, rfl⟩
    rw [u.left x hx, u.left k hk]; exact h
  · intro h
    have := ha.bit_lt h
    exact ⟨π i, u.lt i this.1, π j, u.lt j this.2, ⟨i, this.1, j, this.2, h, rfl, rfl⟩, (u.left i this.1).symm, (u.left j this.2).symm⟩
end Go.Graph
