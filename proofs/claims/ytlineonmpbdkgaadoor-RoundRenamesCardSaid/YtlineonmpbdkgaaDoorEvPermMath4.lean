/-
  Permutations applied to sets and to vectors, one after the other.
-/
import Derived.Test.YtlineonmpbdkgaaDoorEvPermMath3
namespace Go.Perm

theorem mv_get {c v : List Int} (hc : check c = 0) (hv : v.length = c.length) : ∀ k, k ≤ c.length → ∀ i, i < k → (mv c v k).getD (c.getD i 0).toNat 0 = v.getD i 0
  | 0, _, i, hi => by omega
  | k + 1, hk, i, hi => by
    obtain ⟨_, _, hr, hn⟩ := check_ok hc
    have hck := hr _ (getD_mem (l := c) (k := k) (by omega))
    have hci := hr _ (getD_mem (l := c) (k := i) (by omega))
    have hlen : (mv c v k).length = c.length := by rw [mv_length]; exact hv
    rw [mv]
    by_cases e : i = k
    · subst e
      rw [List.getD_eq_getElem?_getD, List.getElem?_set_self (by omega)]; rfl
    · have hne : (c.getD k 0).toNat ≠ (c.getD i 0).toNat := fun h => e (getD_inj hn (by omega) (by omega) (by omega))
      rw [List.getD_eq_getElem?_getD, List.getElem?_set_ne hne, ← List.getD_eq_getElem?_getD]
      exact mv_get hc hv k (by omega) i (by omega)
theorem comp_mv {c v : List Int} (hc : check c = 0) (hv : v.length = c.length) : comp (mv c v c.length) c = v := by
  apply List.ext_getElem (by rw [comp_length, hv])
  intro i h1 h2
  have hi : i < c.length := by rw [comp_length] at h1; exact h1
  have := mv_get hc hv c.length (Nat.le_refl _) i hi
  have e1 : (comp (mv c v c.length) c)[i] = (comp (mv c v c.length) c).getD i 0 := by simp [List.getD_eq_getElem?_getD, h1]
  have e2 : v[i] = v.getD i 0 := by simp [List.getD_eq_getElem?_getD, h2]
  rw [e1, e2, comp_getD hi, this]
theorem comp_ids {x : List Int} {n : Nat} (h : x.length = n) : comp x (ids n) = x := by
  apply List.ext_getElem (by rw [comp_length, ids_length, h])
  intro i h1 h2
  have hi : i < n := by omega
  have e1 : (comp x (ids n))[i] = (comp x (ids n)).getD i 0 := by simp [List.getD_eq_getElem?_getD, h1]
  rw [e1, comp_getD (by rw [ids_length]; exact hi), ids_getD hi]
  simp [List.getD_eq_getElem?_getD, h2]
theorem mv_comp {c v : List Int} (hc : check c = 0) (hv : v.length = c.length) : mv c v c.length = comp v (inv c) := by
  have u := unary hc
  have hf : Fits c.length (inv c) := by
    have := (check_ok u.ok).2.2.1
    rw [show (inv c).length = c.length by unfold inv; rw [mv_length, ids_length]] at this
    exact this
  have h1 : comp (comp (mv c v c.length) c) (inv c) = comp (mv c v c.length) (comp c (inv c)) := comp_assoc hf
  rw [comp_mv hc hv, u.right, comp_ids (by rw [mv_length]; exact hv)] at h1
  exact h1.symm
theorem inv_len (c : List Int) : (inv c).length = c.length := by unfold inv; rw [mv_length, ids_length]
theorem inv_comp {a b : List Int} (ha : check a = 0) (hb : check b = 0) (hl : b.length = a.length) : inv (comp a b) = comp (inv b) (inv a) := by
  have ua := unary ha
  have ub := unary hb
  have uc := unary (comp_ok ha hb hl)
  have lc : (comp a b).length = a.length := by rw [comp_length, hl]
  have fb : Fits a.length b := by have := (check_ok hb).2.2.1; rw [hl] at this; exact this
  have fia : Fits b.length (inv a) := by have := (check_ok ua.ok).2.2.1; rw [inv_len] at this; rw [hl]; exact this
  have fic : Fits (comp a b).length (inv (comp a b)) := by have := (check_ok uc.ok).2.2.1; rw [inv_len] at this; exact this
  have fab : Fits (inv a).length (comp a b) := by have := (check_ok (comp_ok ha hb hl)).2.2.1; rw [lc] at this; rw [inv_len]; exact this
  have hx : comp (comp (inv b) (inv a)) (comp a b) = ids a.length := by
    rw [comp_assoc fab, ← comp_assoc (a := inv a) (by exact fb), ua.left]
    have : comp (ids a.length) b = b := by have := ub.neutral; rw [hl] at this; exact this
    rw [this, ub.left, hl]
  have h2 : comp (comp (comp (inv b) (inv a)) (comp a b)) (inv (comp a b)) = comp (comp (inv b) (inv a)) (comp (comp a b) (inv (comp a b))) := comp_assoc fic
  rw [hx, uc.right, lc, comp_ids (by rw [comp_length, inv_len])] at h2
  have h3 : comp (ids a.length) (inv (comp a b)) = inv (comp a b) := by
    have := (unary uc.ok).neutral
    rw [inv_len, lc] at this
    exact this
  rw [h3] at h2
  exact h2
theorem mv_mv {a b v : List Int} (ha : check a = 0) (hb : check b = 0) (hl : b.length = a.length) (hv : v.length = a.length) : mv a (mv b v b.length) a.length = mv (comp a b) v (comp a b).length := by
  have lc : (comp a b).length = a.length := by rw [comp_length, hl]
  have fia : Fits (inv b).length (inv a) := by have := (check_ok (unary ha).ok).2.2.1; rw [inv_len] at this; rw [inv_len, hl]; exact this
  rw [mv_comp (comp_ok ha hb hl) (by rw [lc]; exact hv), inv_comp ha hb hl, mv_comp hb (by omega), mv_comp ha (by rw [comp_length, inv_len, hl])]
  exact comp_assoc fia

/-! Finite facts. -/
def pop (s : Nat) : Nat := s % 2 + s / 2 % 2 + s / 4 % 2 + s / 8 % 2 + s / 16 % 2
def okV (l : List Int) : Bool := !(check l == 0) || (l.isPerm (ids l.length) && (List.range (2 ^ l.length)).all fun s => pop (img s l 0 0) == pop s && decide (img s l 0 0 < 2 ^ l.length))
theorem v1 : ∀ a, a < 1 → okV [((a : Nat) : Int)] = true := by decide +kernel
theorem v2 : ∀ a, a < 2 → ∀ b, b < 2 → okV [((a : Nat) : Int), (b : Nat)] = true := by decide +kernel
theorem v3 : ∀ a, a < 3 → ∀ b, b < 3 → ∀ c, c < 3 → okV [((a : Nat) : Int), (b : Nat), (c : Nat)] = true := by decide +kernel
theorem v4 : ∀ a, a < 4 → ∀ b, b < 4 → ∀ c, c < 4 → ∀ d, d < 4 → okV [((a : Nat) : Int), (b : Nat), (c : Nat), (d : Nat)] = true := by decide +kernel
theorem v5 : ∀ a, a < 5 → ∀ b, b < 5 → ∀ c, c < 5 → ∀ d, d < 5 → ∀ e, e < 5 → okV [((a : Nat) : Int), (b : Nat), (c : Nat), (d : Nat), (e : Nat)] = true := by decide +kernel
theorem okV_all {l : List Int} (h : check l = 0) : okV l = true := by
  obtain ⟨h1, h5, hr, _⟩ := check_ok h
  match l, h1, h5, hr with
  | [a], _, _, hr =>
    obtain ⟨x, hx, rfl⟩ := nat_of (hr a (by simp))
    exact v1 x hx
  | [a, b], _, _, hr =>
    obtain ⟨x, hx, rfl⟩ := nat_of (hr a (by simp)); obtain ⟨y, hy, rfl⟩ := nat_of (hr b (by simp))
    exact v2 x hx y hy
  | [a, b, c], _, _, hr =>
    obtain ⟨x, hx, rfl⟩ := nat_of (hr a (by simp)); obtain ⟨y, hy, rfl⟩ := nat_of (hr b (by simp)); obtain ⟨z, hz, rfl⟩ := nat_of (hr c (by simp))
    exact v3 x hx y hy z hz
  | [a, b, c, d], _, _, hr =>
    obtain ⟨x, hx, rfl⟩ := nat_of (hr a (by simp)); obtain ⟨y, hy, rfl⟩ := nat_of (hr b (by simp)); obtain ⟨z, hz, rfl⟩ := nat_of (hr c (by simp)); obtain ⟨u, hu, rfl⟩ := nat_of (hr d (by simp))
    exact v4 x hx y hy z hz u hu
  | [a, b, c, d, e], _, _, hr =>
    obtain ⟨x, hx, rfl⟩ := nat_of (hr a (by simp)); obtain ⟨y, hy, rfl⟩ := nat_of (hr b (by simp)); obtain ⟨z, hz, rfl⟩ := nat_of (hr c (by simp)); obtain ⟨u, hu, rfl⟩ := nat_of (hr d (by simp)); obtain ⟨t, ht, rfl⟩ := nat_of (hr e (by simp))
    exact v5 x hx y hy z hz u hu t ht
  | _ :: _ :: _ :: _ :: _ :: _ :: _, _, h5, _ => exact absurd h5 (by simp)
theorem perm_ids {l : List Int} (h : check l = 0) : l.Perm (ids l.length) := by
  have := okV_all h
  unfold okV at this
  rw [h] at this
  simp only [beq_self_eq_true, Bool.not_true, Bool.false_or, Bool.and_eq_true] at this
  exact List.isPerm_iff.1 this.1
theorem img_pop {l : List Int} (h : check l = 0) {s : Nat} (hs : s < 2 ^ l.length) : pop (img s l 0 0) = pop s ∧ img s l 0 0 < 2 ^ l.length := by
  have := okV_all h
  unfold okV at this
  rw [h] at this
  simp only [beq_self_eq_true, Bool.not_true, Bool.false_or, Bool.and_eq_true, List.all_eq_true, List.mem_range, beq_iff_eq, decide_eq_true_eq] at this
  exact this.2 s hs
theorem mv_perm {c v : List Int} (hc : check c = 0) (hv : v.length = c.length) : (mv c v c.length).Perm v := by
  rw [mv_comp hc hv]
  have u := unary hc
  have hp := perm_ids u.ok
  rw [inv_len] at hp
  have := hp.map fun q => v.getD q.toNat 0
  have e : (ids c.length).map (fun q => v.getD q.toNat 0) = v := comp_ids (x := v) hv
  rw [e] at this
  exact this

/-! Images, bit by bit. -/
theorem img_bit (S : Nat) : ∀ (l : List Int) (i out q : Nat), (img S l i out).testBit q = (out.testBit q || (List.range l.length).any fun p => S.testBit (i + p) && decide ((l.getD p 0).toNat = q))
  | [], i, out, q => by simp [img]
  | x :: l, i, out, q => by
    rw [img, img_bit S l (i + 1)]
    have hb : S.testBit i = decide (S / 2 ^ i % 2 = 1) := by rw [Nat.testBit_eq_decide_div_mod_eq]
    have hr : (List.range (x :: l).length).any (fun p => S.testBit (i + p) && decide (((x :: l).getD p 0).toNat = q)) = ((S.testBit i && decide (x.toNat = q)) || (List.range l.length).any fun p => S.testBit (i + 1 + p) && decide ((l.getD p 0).toNat = q)) := by
      rw [List.length_cons, List.range_succ_eq_map, List.any_cons, List.any_map]
      have e : ((fun p => S.testBit (i + p) && decide (((x :: l).getD p 0).toNat = q)) ∘ Nat.succ) = fun p => S.testBit (i + 1 + p) && decide ((l.getD p 0).toNat = q) := by
        funext p
        simp only [Function.comp]
        rw [show i + p.succ = i + 1 + p by omega]
        rfl
      rw [e]; rfl
    rw [hr, hb]
    by_cases h : S / 2 ^ i % 2 = 1
    · rw [if_pos h, Nat.testBit_or, Nat.testBit_two_pow]
      simp [h, Bool.or_assoc]
    · rw [if_neg h]
      simp [h]
theorem img_img {a b : List Int} {S : Nat} (ha : check a = 0) (hb : check b = 0) (hl : b.length = a.length) : img (img S b 0 0) a 0 0 = img S (comp a b) 0 0 := by
  apply Nat.eq_of_testBit_eq
  intro q
  have hbr := (check_ok hb).2.2.1
  rw [img_bit, img_bit]
  simp only [Nat.zero_testBit, Bool.false_or, Nat.zero_add]
  rw [Bool.eq_iff_iff]
  simp only [List.any_eq_true, List.mem_range, Bool.and_eq_true, decide_eq_true_eq]
  constructor
  · rintro ⟨p, hp, h1, h2⟩
    rw [img_bit] at h1
    simp only [Nat.zero_testBit, Bool.false_or, Nat.zero_add, List.any_eq_true, List.mem_range, Bool.and_eq_true, decide_eq_true_eq] at h1
    obtain ⟨r, hr, h3, h4⟩ := h1
    refine ⟨r, by rw [comp_length]; exact hr, h3, ?_⟩
    rw [comp_getD hr, h4]; exact h2
  · rintro ⟨r, hr, h3, h4⟩
    rw [comp_length] at hr
    rw [comp_getD hr] at h4
    have hx := hbr _ (getD_mem hr)
    refine ⟨(b.getD r 0).toNat, by omega, ?_, h4⟩
    rw [img_bit]
    simp only [Nat.zero_testBit, Bool.false_or, Nat.zero_add, List.any_eq_true, List.mem_range, Bool.and_eq_true, decide_eq_true_eq]
    exact ⟨r, hr, h3, rfl⟩

/-! What is taken of the seed. -/
def vv (s n : Nat) : List Int := (List.range n).map fun i => ((s / 2 ^ i % 4 : Nat) : Int)
theorem vv_len (s n : Nat) : (vv s n).length = n := by simp [vv]
theorem vv_succ (s n : Nat) : vv s (n + 1) = vv s n ++ [((s / 2 ^ n % 4 : Nat) : Int)] := by simp [vv, List.range_succ]
theorem asc_eq {l k : List Int} (h : l.Perm k) : l.mergeSort (fun x y => decide (x ≤ y)) = k.mergeSort fun x y => decide (x ≤ y) := by
  have s1 := List.pairwise_mergeSort (le := fun x y : Int => decide (x ≤ y)) (by intro a b c; simp; omega) (by intro a b; simp; omega) l
  have s2 := List.pairwise_mergeSort (le := fun x y : Int => decide (x ≤ y)) (by intro a b c; simp; omega) (by intro a b; simp; omega) k
  refine List.Perm.eq_of_pairwise (le := fun x y : Int => decide (x ≤ y) = true) ?_ s1 s2 ((List.mergeSort_perm _ _).trans (h.trans (List.mergeSort_perm _ _).symm))
  intro a b _ _ h1 h2
  simp at h1 h2; omega
end Go.Perm
