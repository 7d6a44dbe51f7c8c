/-
  Plain facts on the group of the permutations of at most five processes: products, inverses, parity.
-/
import Derived.Test.YtpdlnijdcgcfbabDoorEvPermMath2
namespace Go.Perm

theorem chk_zero {n : Nat} : ∀ {xs pre : List Int}, Fits n xs → (pre ++ xs).Nodup → chk n xs pre = 0
  | [], _, _, _ => rfl
  | x :: xs, pre, hf, hn => by
    have hx := hf x (by simp)
    have hno : x ∉ pre := fun hp => by
      rw [List.nodup_append] at hn
      exact hn.2.2 x hp x (by simp) rfl
    rw [chk_more hx.1 hx.2 hno]
    exact chk_zero (fun y hy => hf y (by simp [hy])) (by rw [List.append_assoc]; exact hn)
theorem check_of {l : List Int} (h1 : 1 ≤ l.length) (h5 : l.length ≤ 5) (hf : Fits l.length l) (hn : l.Nodup) : check l = 0 := by
  rw [check_chk h1 h5]; exact chk_zero hf hn
theorem getD_inj {l : List Int} (hn : l.Nodup) {i j : Nat} (hi : i < l.length) (hj : j < l.length) (h : l.getD i 0 = l.getD j 0) : i = j := by
  rw [List.getD_eq_getElem?_getD, List.getD_eq_getElem?_getD, List.getElem?_eq_getElem hi, List.getElem?_eq_getElem hj] at h
  exact (List.getElem_inj (h₀ := hi) (h₁ := hj) hn).1 (by simpa using h)
theorem comp_ok {a b : List Int} (ha : check a = 0) (hb : check b = 0) (hl : b.length = a.length) : check (comp a b) = 0 := by
  obtain ⟨h1, h5, hfa, hna⟩ := check_ok ha
  obtain ⟨_, _, hfb, hnb⟩ := check_ok hb
  have hfb' : Fits a.length b := by rw [← hl]; exact hfb
  refine check_of (by rw [comp_length]; omega) (by rw [comp_length]; omega) (by rw [comp_length, hl]; exact comp_fits hfa hfb') ?_
  unfold comp
  unfold List.Nodup at hnb ⊢
  rw [List.pairwise_map]
  refine hnb.imp_of_mem fun {x y} hx hy hne he => hne ?_
  have hx' := hfb' x hx
  have hy' := hfb' y hy
  have := getD_inj hna (by omega) (by omega) he
  omega
theorem comp_assoc {a b c : List Int} (hc : Fits b.length c) : comp (comp a b) c = comp a (comp b c) := by
  unfold comp
  rw [List.map_map]
  refine List.map_congr_left fun q hq => ?_
  have hq' := hc q hq
  show (comp a b).getD q.toNat 0 = _
  rw [comp_getD (by omega)]
  rfl

/-- Two neighbours in each other's places. -/
def tr (n i : Nat) : List Int := ((ids n).set i ((i : Int) + 1)).set (i + 1) (i : Int)
def prod (n : Nat) : List Nat → List Int
  | [] => ids n
  | i :: w => comp (prod n w) (tr n i)
/-- Neighbours to be exchanged, until a list is in order. -/
def desc (l : List Int) : Option Nat := (List.range (l.length - 1)).find? fun i => decide (l.getD (i + 1) 0 < l.getD i 0)
def wordOf : Nat → List Int → List Nat
  | 0, _ => []
  | f + 1, l => match desc l with
    | some i => i :: wordOf f (comp l (tr l.length i))
    | none => []
def inv (l : List Int) : List Int := mv l (ids l.length) l.length
def parity : List Nat → Bool
  | [] => false
  | _ :: w => !(parity w)
def okU (l : List Int) : Bool := !(check l == 0) ||
  (comp (inv l) l == ids l.length && comp l (inv l) == ids l.length && check (inv l) == 0 && comp (ids l.length) l == l && comp l (ids l.length) == l && prod l.length (wordOf 12 l) == l &&
   (wordOf 12 l).all (fun i => decide (i + 1 < l.length)) && (outer l l.length == parity (wordOf 12 l)) &&
   (List.range (l.length - 1)).all fun i => outer (comp l (tr l.length i)) l.length == !(outer l l.length))
theorem u1 : ∀ a, a < 1 → okU [((a : Nat) : Int)] = true := by decide +kernel
theorem u2 : ∀ a, a < 2 → ∀ b, b < 2 → okU [((a : Nat) : Int), (b : Nat)] = true := by decide +kernel
theorem u3 : ∀ a, a < 3 → ∀ b, b < 3 → ∀ c, c < 3 → okU [((a : Nat) : Int), (b : Nat), (c : Nat)] = true := by decide +kernel
theorem u4 : ∀ a, a < 4 → ∀ b, b < 4 → ∀ c, c < 4 → ∀ d, d < 4 → okU [((a : Nat) : Int), (b : Nat), (c : Nat), (d : Nat)] = true := by decide +kernel
theorem u5 : ∀ a, a < 5 → ∀ b, b < 5 → ∀ c, c < 5 → ∀ d, d < 5 → ∀ e, e < 5 → okU [((a : Nat) : Int), (b : Nat), (c : Nat), (d : Nat), (e : Nat)] = true := by decide +kernel
theorem okU_all {l : List Int} (h : check l = 0) : okU l = true := by
  obtain ⟨h1, h5, hr, _⟩ := check_ok h
  match l, h1, h5, hr with
  | [a], _, _, hr =>
    obtain ⟨x, hx, rfl⟩ := nat_of (hr a (by simp))
    exact u1 x hx
  | [a, b], _, _, hr =>
    obtain ⟨x, hx, rfl⟩ := nat_of (hr a (by simp)); obtain ⟨y, hy, rfl⟩ := nat_of (hr b (by simp))
    exact u2 x hx y hy
  | [a, b, c], _, _, hr =>
    obtain ⟨x, hx, rfl⟩ := nat_of (hr a (by simp)); obtain ⟨y, hy, rfl⟩ := nat_of (hr b (by simp)); obtain ⟨z, hz, rfl⟩ := nat_of (hr c (by simp))
    exact u3 x hx y hy z hz
  | [a, b, c, d], _, _, hr =>
    obtain ⟨x, hx, rfl⟩ := nat_of (hr a (by simp)); obtain ⟨y, hy, rfl⟩ := nat_of (hr b (by simp)); obtain ⟨z, hz, rfl⟩ := nat_of (hr c (by simp)); obtain ⟨u, hu, rfl⟩ := nat_of (hr d (by simp))
    exact u4 x hx y hy z hz u hu
  | [a, b, c, d, e], _, _, hr =>
    obtain ⟨x, hx, rfl⟩ := nat_of (hr a (by simp)); obtain ⟨y, hy, rfl⟩ := nat_of (hr b (by simp)); obtain ⟨z, hz, rfl⟩ := nat_of (hr c (by simp)); obtain ⟨u, hu, rfl⟩ := nat_of (hr d (by simp)); obtain ⟨t, ht, rfl⟩ := nat_of (hr e (by simp))
    exact u5 x hx y hy z hz u hu t ht
  | _ :: _ :: _ :: _ :: _ :: _ :: _, _, h5, _ => exact absurd h5 (by simp)
structure Unary (l : List Int) : Prop where
  left : comp (inv l) l = ids l.length
  right : comp l (inv l) = ids l.length
  ok : check (inv l) = 0
  neutral : comp (ids l.length) l = l
  neutral' : comp l (ids l.length) = l
  word : prod l.length (wordOf 12 l) = l
  small : ∀ i ∈ wordOf 12 l, i + 1 < l.length
  par : outer l l.length = parity (wordOf 12 l)
  turn : ∀ i, i + 1 < l.length → outer (comp l (tr l.length i)) l.length = !(outer l l.length)
theorem unary {l : List Int} (h : check l = 0) : Unary l := by
  have hu := okU_all h
  unfold okU at hu
  rw [h] at hu
  simp only [beq_self_eq_true, Bool.not_true, Bool.false_or, Bool.and_eq_true, beq_iff_eq, List.all_eq_true, decide_eq_true_eq, List.mem_range] at hu
  obtain ⟨⟨⟨⟨⟨⟨⟨⟨h1, h2⟩, h3⟩, h4⟩, h5⟩, h6⟩, h7⟩, h8⟩, h9⟩ := hu
  exact ⟨h1, h2, h3, h4, h5, h6, h7, h8, fun i hi => h9 i (by omega)⟩
theorem tr_length (n i : Nat) : (tr n i).length = n := by simp [tr, ids_length]
theorem tr_ok : ∀ n, n < 6 → ∀ i, i < 5 → i + 1 < n → check (tr n i) = 0 := by decide +kernel
theorem prod_length (n : Nat) : ∀ w, (prod n w).length = n
  | [] => ids_length n
  | i :: w => by rw [prod, comp_length, tr_length]
theorem ids_ok : ∀ n, n < 6 → 1 ≤ n → check (ids n) = 0 := by decide +kernel
theorem prod_ok {n : Nat} (h1 : 1 ≤ n) (h5 : n ≤ 5) : ∀ w, (∀ i ∈ w, i + 1 < n) → check (prod n w) = 0
  | [], _ => ids_ok n (by omega) h1
  | i :: w, h => comp_ok (prod_ok h1 h5 w fun j hj => h j (by simp [hj])) (tr_ok n (by omega) i (by have := h i (by simp); omega) (h i (by simp))) (by rw [tr_length, prod_length])
/-- The parity of a product with neighbours that change places. -/
theorem par_prod {a : List Int} (ha : check a = 0) : ∀ w, (∀ i ∈ w, i + 1 < a.length) → outer (comp a (prod a.length w)) a.length = (outer a a.length != parity w)
  | [], _ => by rw [prod, (unary ha).neutral']; simp [parity]
  | i :: w, h => by
    obtain ⟨h1, h5, hfa, _⟩ := check_ok ha
    have hw : ∀ j ∈ w, j + 1 < a.length := fun j hj => h j (by simp [hj])
    have hi := h i (by simp)
    have hp := prod_ok h1 h5 w hw
    have hc := comp_ok ha hp (prod_length _ _)
    have hl : (comp a (prod a.length w)).length = a.length := by rw [comp_length, prod_length]
    have ht := (unary hc).turn i (by rw [hl]; exact hi)
    rw [hl] at ht
    have hf : Fits (prod a.length w).length (tr a.length i) := by
      have := (check_ok (tr_ok a.length (by omega) i (by omega) hi)).2.2.1
      rw [tr_length] at this
      rw [prod_length]; exact this
    rw [prod, ← comp_assoc hf, ht, par_prod ha w hw]
    cases outer a a.length <;> cases h2 : parity w <;> simp [parity, h2]
/-- A composition is odd exactly if one of its parts alone is. -/
theorem par_comp {a b : List Int} (ha : check a = 0) (hb : check b = 0) (hl : b.length = a.length) : outer (comp a b) a.length = (outer a a.length != outer b a.length) := by
  have u := unary hb
  have h := par_prod ha (wordOf 12 b) (fun i hi => by have := u.small i hi; omega)
  have hw : prod a.length (wordOf 12 b) = b := by rw [← hl]; exact u.word
  rw [hw] at h
  rw [h, ← hl, u.par]
end Go.Perm
