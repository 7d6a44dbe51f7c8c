/-
  Plain facts on the group of the permutations of at most five processes: products, inverses, parity.
-/
import GoSem.Step
namespace Go.Perm

/-- The error of the rest of a list, behind what has been looked at. -/
def chk (n : Nat) : List Int → List Int → Int
  | [], _ => 0
  | x :: xs, pre => if x < 0 ∨ (n : Int) ≤ x then 2 else if x ∈ pre then 7 else chk n xs (pre ++ [x])
/-- The error of a list. -/
def check (l : List Int) : Int := if l.length < 1 ∨ 5 < l.length then 2 else chk l.length l []

theorem chk_range {n : Nat} {x : Int} {xs pre : List Int} (h : x < 0 ∨ (n : Int) ≤ x) : chk n (x :: xs) pre = 2 := by rw [chk, if_pos h]
theorem chk_twice {n : Nat} {x : Int} {xs pre : List Int} (h0 : 0 ≤ x) (h1 : x < n) (h : x ∈ pre) : chk n (x :: xs) pre = 7 := by rw [chk, if_neg (by omega), if_pos h]
theorem chk_more {n : Nat} {x : Int} {xs pre : List Int} (h0 : 0 ≤ x) (h1 : x < n) (h : x ∉ pre) : chk n (x :: xs) pre = chk n xs (pre ++ [x]) := by rw [chk, if_neg (by omega), if_neg h]
theorem check_len {l : List Int} (h : l.length < 1 ∨ 5 < l.length) : check l = 2 := by rw [check, if_pos h]
theorem check_chk {l : List Int} (h : 1 ≤ l.length) (h5 : l.length ≤ 5) : check l = chk l.length l [] := by rw [check, if_neg (by omega)]

theorem chk_ok {n : Nat} : ∀ {xs pre : List Int}, chk n xs pre = 0 → (∀ x ∈ xs, 0 ≤ x ∧ x < n) ∧ xs.Nodup ∧ ∀ x ∈ xs, x ∉ pre
  | [], _, _ => ⟨(fun x h => by cases h), List.nodup_nil, (fun x h => by cases h)⟩
  | x :: xs, pre, h => by
    by_cases h1 : x < 0 ∨ (n : Int) ≤ x
    · rw [chk_range h1] at h; omega
    · by_cases h2 : x ∈ pre
      · rw [chk_twice (by omega) (by omega) h2] at h; omega
      · rw [chk_more (by omega) (by omega) h2] at h
        obtain ⟨a, b, c⟩ := chk_ok h
        refine ⟨fun y hy => ?_, ?_, fun y hy => ?_⟩
        · rcases List.mem_cons.1 hy with rfl | hy
          · omega
          · exact a y hy
        · refine List.nodup_cons.2 ⟨fun hx => ?_, b⟩
          exact c x hx (by simp)
        · rcases List.mem_cons.1 hy with rfl | hy
          · exact h2
          · exact fun hp => c y hy (by simp [hp])
/-- What a good list is. -/
theorem check_ok {l : List Int} (h : check l = 0) : 1 ≤ l.length ∧ l.length ≤ 5 ∧ (∀ x ∈ l, 0 ≤ x ∧ x < l.length) ∧ l.Nodup := by
  by_cases hl : l.length < 1 ∨ 5 < l.length
  · rw [check_len hl] at h; omega
  · rw [check_chk (by omega) (by omega)] at h
    obtain ⟨a, b, _⟩ := chk_ok h
    exact ⟨by omega, by omega, a, b⟩

/-- The image of a set under the elements of a list, from an index on. -/
def img (set : Nat) : List Int → Nat → Nat → Nat
  | [], _, out => out
  | q :: l, i, out => img set l (i + 1) (if set / 2 ^ i % 2 = 1 then out ||| 2 ^ q.toNat else out)
theorem img_yes {set i out : Nat} {q : Int} {l : List Int} (h : set / 2 ^ i % 2 = 1) : img set (q :: l) i out = img set l (i + 1) (out ||| 2 ^ q.toNat) := by rw [img, if_pos h]
theorem img_no {set i out : Nat} {q : Int} {l : List Int} (h : set / 2 ^ i % 2 = 0) : img set (q :: l) i out = img set l (i + 1) out := by rw [img, if_neg (by omega)]
theorem or_lt (a p n : Nat) (ha : a < 2 ^ n) (hp : p < n) : a ||| 2 ^ p < 2 ^ n := Nat.or_lt_two_pow ha (Nat.pow_lt_pow_right (by omega) hp)

/-- The vector whose element with the index a[p] is v[p]: the first k stores. -/
def mv (a v : List Int) : Nat → List Int
  | 0 => List.replicate v.length 0
  | k + 1 => (mv a v k).set (a.getD k 0).toNat (v.getD k 0)
theorem mv_length (a v : List Int) (k : Nat) : (mv a v k).length = v.length := by
  induction k with
  | zero => simp [mv]
  | succ k ih => simp [mv, ih]
theorem getD_mem {l : List Int} {k : Nat} (h : k < l.length) : l.getD k 0 ∈ l := by
  rw [List.getD_eq_getElem?_getD, List.getElem?_eq_getElem h]; exact List.getElem_mem h
theorem drop_cons {l : List Int} {k : Nat} (h : k < l.length) : l.drop k = l.getD k 0 :: l.drop (k + 1) := by
  rw [List.drop_eq_getElem_cons h]; simp [List.getD, List.getElem?_eq_getElem h]
theorem take_snoc {l : List Int} {k : Nat} (h : k < l.length) : l.take (k + 1) = l.take k ++ [l.getD k 0] := by
  rw [List.take_succ_eq_append_getElem h]; simp [List.getD, List.getElem?_eq_getElem h]
/-- A member of the first k elements. -/
theorem mem_take {l : List Int} {k : Nat} {x : Int} : x ∈ l.take k ↔ ∃ j, j < k ∧ j < l.length ∧ l.getD j 0 = x := by
  rw [List.mem_take_iff_getElem]
  constructor
  · rintro ⟨j, hj, rfl⟩
    exact ⟨j, by omega, by omega, by simp [List.getD, List.getElem?_eq_getElem (show j < l.length by omega)]⟩
  · rintro ⟨j, h1, h2, rfl⟩
    exact ⟨j, by omega, by simp [List.getD, List.getElem?_eq_getElem h2]⟩
end Go.Perm
namespace Go.Perm

def ids (n : Nat) : List Int := (List.range n).map fun i : Nat => (i : Int)
theorem ids_length (n : Nat) : (ids n).length = n := by simp [ids]
theorem ids_getD {n k : Nat} (h : k < n) : (ids n).getD k 0 = (k : Int) := by
  unfold ids
  rw [List.getD_eq_getElem?_getD, List.getElem?_map, List.getElem?_range h]
  rfl
theorem ids_take_succ {n k : Nat} (h : k < n) : (ids n).take (k + 1) = (ids n).take k ++ [(k : Int)] := by
  rw [take_snoc (by rw [ids_length]; exact h), ids_getD h]

/-- The first k elements of a list, and zeros. -/
def cp (vs : List Int) (k : Nat) : List Int := vs.take k ++ List.replicate (vs.length - k) 0
theorem cp_zero (vs : List Int) : cp vs 0 = List.replicate vs.length 0 := by simp [cp]
theorem cp_length (vs : List Int) (k : Nat) (h : k ≤ vs.length) : (cp vs k).length = vs.length := by simp [cp]; omega
theorem cp_all (vs : List Int) : cp vs vs.length = vs := by simp [cp]
theorem cp_succ (vs : List Int) (k : Nat) (h : k < vs.length) : cp vs (k + 1) = (cp vs k).set k (vs.getD k 0) := by
  unfold cp
  rw [take_snoc h, List.set_append_right _ _ (by rw [List.length_take]; omega)]
  rw [List.length_take, Nat.min_eq_left (by omega), Nat.sub_self, List.append_assoc]
  congr 1
  rw [show vs.length - k = (vs.length - (k + 1)) + 1 from by omega, List.replicate_succ]
  rfl

/-- First b, then a. -/
def comp (a b : List Int) : List Int := b.map fun q => a.getD q.toNat 0
theorem comp_length (a b : List Int) : (comp a b).length = b.length := by simp [comp]
theorem comp_getD {a b : List Int} {k : Nat} (h : k < b.length) : (comp a b).getD k 0 = a.getD (b.getD k 0).toNat 0 := by
  unfold comp
  rw [List.getD_eq_getElem?_getD, List.getElem?_map, List.getElem?_eq_getElem h]
  simp [List.getD, List.getElem?_eq_getElem h]
/-- Elements that are processes. -/
def Fits (n : Nat) (l : List Int) : Prop := ∀ x ∈ l, 0 ≤ x ∧ x < n
theorem comp_fits {n : Nat} {a b : List Int} (ha : Fits n a) (hb : Fits a.length b) : Fits n (comp a b) := by
  intro x hx
  unfold comp at hx
  obtain ⟨q, hq, rfl⟩ := List.mem_map.1 hx
  exact ha _ (getD_mem (by have := hb q hq; omega))

/-- The power with the exponent j + 1. -/
def pw (a : List Int) : Nat → List Int
  | 0 => a
  | j + 1 => comp a (pw a j)
theorem pw_length (a : List Int) (j : Nat) : (pw a j).length = a.length := by
  induction j with
  | zero => rfl
  | succ j ih => rw [pw, comp_length, ih]
theorem pw_fits {a : List Int} (h : Fits a.length a) (j : Nat) : Fits a.length (pw a j) := by
  induction j with
  | zero => exact h
  | succ j ih => exact comp_fits h ih

theorem nat_of {x : Int} {n : Nat} (h : 0 ≤ x ∧ x < n) : ∃ k, k < n ∧ x = (k : Nat) := ⟨x.toNat, by omega, by omega⟩
def okB (l : List Int) : Bool := !(check l == 0) || (List.range 6).any fun j => pw l j == ids l.length
theorem o1 : ∀ a, a < 1 → okB [((a : Nat) : Int)] = true := by decide +kernel
theorem o2 : ∀ a, a < 2 → ∀ b, b < 2 → okB [((a : Nat) : Int), (b : Nat)] = true := by decide +kernel
theorem o3 : ∀ a, a < 3 → ∀ b, b < 3 → ∀ c, c < 3 → okB [((a : Nat) : Int), (b : Nat), (c : Nat)] = true := by decide +kernel
theorem o4 : ∀ a, a < 4 → ∀ b, b < 4 → ∀ c, c < 4 → ∀ d, d < 4 → okB [((a : Nat) : Int), (b : Nat), (c : Nat), (d : Nat)] = true := by decide +kernel
theorem o5 : ∀ a, a < 5 → ∀ b, b < 5 → ∀ c, c < 5 → ∀ d, d < 5 → ∀ e, e < 5 → okB [((a : Nat) : Int), (b : Nat), (c : Nat), (d : Nat), (e : Nat)] = true := by decide +kernel
theorem ok_all {l : List Int} (h : check l = 0) : okB l = true := by
  obtain ⟨h1, h5, hr, _⟩ := check_ok h
  match l, h1, h5, hr with
  | [a], _, _, hr =>
    obtain ⟨x, hx, rfl⟩ := nat_of (hr a (by simp))
    exact o1 x hx
  | [a, b], _, _, hr =>
    obtain ⟨x, hx, rfl⟩ := nat_of (hr a (by simp)); obtain ⟨y, hy, rfl⟩ := nat_of (hr b (by simp))
    exact o2 x hx y hy
  | [a, b, c], _, _, hr =>
    obtain ⟨x, hx, rfl⟩ := nat_of (hr a (by simp)); obtain ⟨y, hy, rfl⟩ := nat_of (hr b (by simp)); obtain ⟨z, hz, rfl⟩ := nat_of (hr c (by simp))
    exact o3 x hx y hy z hz
  | [a, b, c, d], _, _, hr =>
    obtain ⟨x, hx, rfl⟩ := nat_of (hr a (by simp)); obtain ⟨y, hy, rfl⟩ := nat_of (hr b (by simp)); obtain ⟨z, hz, rfl⟩ := nat_of (hr c (by simp)); obtain ⟨u, hu, rfl⟩ := nat_of (hr d (by simp))
    exact o4 x hx y hy z hz u hu
  | [a, b, c, d, e], _, _, hr =>
    obtain ⟨x, hx, rfl⟩ := nat_of (hr a (by simp)); obtain ⟨y, hy, rfl⟩ := nat_of (hr b (by simp)); obtain ⟨z, hz, rfl⟩ := nat_of (hr c (by simp)); obtain ⟨u, hu, rfl⟩ := nat_of (hr d (by simp)); obtain ⟨t, ht, rfl⟩ := nat_of (hr e (by simp))
    exact o5 x hx y hy z hz u hu t ht
  | _ :: _ :: _ :: _ :: _ :: _ :: _, _, h5, _ => exact absurd h5 (by simp)
theorem ord_exists {l : List Int} (h : check l = 0) : ∃ j, j < 6 ∧ pw l j = ids l.length := by
  have := ok_all h
  unfold okB at this
  rw [h] at this
  simp only [beq_self_eq_true, Bool.not_true, Bool.false_or, List.any_eq_true, List.mem_range, beq_iff_eq] at this
  exact this
/-- The least exponent whose power is the identity. -/
def ord (l : List Int) : Nat := ((List.range 6).find? fun j => decide (pw l j = ids l.length)).getD 0 + 1
theorem ord_of {l : List Int} {j : Nat} (h6 : j < 6) (h : pw l j = ids l.length) (hm : ∀ i, i < j → pw l i ≠ ids l.length) : ord l = j + 1 := by
  unfold ord
  have : (List.range 6).find? (fun j => decide (pw l j = ids l.length)) = some j := by
    rw [List.find?_range_eq_some]
    exact ⟨by simpa using h, by simpa using h6, fun i hi => by simpa using hm i hi⟩
  rw [this]; rfl

/-! Inversions. -/
def inner (l : List Int) (q : Nat) : Nat → Bool → Bool
  | 0, o => o
  | p + 1, o => if l.getD q 0 < l.getD p 0 then !(inner l q p o) else inner l q p o
def outer (l : List Int) : Nat → Bool
  | 0 => false
  | q + 1 => inner l q q (outer l q)
end Go.Perm
namespace Go.Perm

theorem chk_zero {n : Nat} : ∀ {xs pre : List Int}, Fits n xs → (pre ++ xs).Nodup → chk n xs pre = 0
  | [], _, _, _ => rfl
  | x :: xs, pre, hf, hn => by
    have hx := hf x (by simp)
    have hno : x ∉ pre := fun hp => by
      rw [List.nodup_append] at hn
      exact hn.2.2 x hp x (by simp) rfl
    rw [chk_more hx.1 hx.2 hno]
    exact chk_zero (fun y hy => hf y (by simp [hy])) (by rw [List.append_assoc]; exact hn)
theorem check_of {l : List Int} (h1 : 1 ≤ l.length) (h5 : l.length ≤ 5) (hf : Fits l.length l) (hn : l.Nodup) : check l = 0 := by
  rw [check_chk h1 h5]; exact chk_zero hf hn
theorem getD_inj {l : List Int} (hn : l.Nodup) {i j : Nat} (hi : i < l.length) (hj : j < l.length) (h : l.getD i 0 = l.getD j 0) : i = j := by
  rw [List.getD_eq_getElem?_getD, List.getD_eq_getElem?_getD, List.getElem?_eq_getElem hi, List.getElem?_eq_getElem hj] at h
  exact (List.getElem_inj (h₀ := hi) (h₁ := hj) hn).1 (by simpa using h)
theorem comp_ok {a b : List Int} (ha : check a = 0) (hb : check b = 0) (hl : b.length = a.length) : check (comp a b) = 0 := by
  obtain ⟨h1, h5, hfa, hna⟩ := check_ok ha
  obtain ⟨_, _, hfb, hnb⟩ := check_ok hb
  have hfb' : Fits a.length b := by rw [← hl]; exact hfb
  refine check_of (by rw [comp_length]; omega) (by rw [comp_length]; omega) (by rw [comp_length, hl]; exact comp_fits hfa hfb') ?_
  unfold comp
  unfold List.Nodup at hnb ⊢
  rw [List.pairwise_map]
  refine hnb.imp_of_mem fun {x y} hx hy hne he => hne ?_
  have hx' := hfb' x hx
  have hy' := hfb' y hy
  have := getD_inj hna (by omega) (by omega) he
  omega
theorem comp_assoc {a b c : List Int} (hc : Fits b.length c) : comp (comp a b) c = comp a (comp b c) := by
  unfold comp
  rw [List.map_map]
  refine List.map_congr_left fun q hq => ?_
  have hq' := hc q hq
  show (comp a b).getD q.toNat 0 = _
  rw [comp_getD (by omega)]
  rfl

/-- Two neighbours in each other's places. -/
def tr (n i : Nat) : List Int := ((ids n).set i ((i : Int) + 1)).set (i + 1) (i : Int)
def prod (n : Nat) : List Nat → List Int
  | [] => ids n
  | i :: w => comp (prod n w) (tr n i)
/-- Neighbours to be exchanged, until a list is in order. -/
def desc (l : List Int) : Option Nat := (List.range (l.length - 1)).find? fun i => decide (l.getD (i + 1) 0 < l.getD i 0)
def wordOf : Nat → List Int → List Nat
  | 0, _ => []
  | f + 1, l => match desc l with
    | some i => i :: wordOf f (comp l (tr l.length i))
    | none => []
def inv (l : List Int) : List Int := mv l (ids l.length) l.length
def parity : List Nat → Bool
  | [] => false
  | _ :: w => !(parity w)
def okU (l : List Int) : Bool := !(check l == 0) ||
  (comp (inv l) l == ids l.length && comp l (inv l) == ids l.length && check (inv l) == 0 && comp (ids l.length) l == l && comp l (ids l.length) == l && prod l.length (wordOf 12 l) == l &&
   (wordOf 12 l).all (fun i => decide (i + 1 < l.length)) && (outer l l.length == parity (wordOf 12 l)) &&
   (List.range (l.length - 1)).all fun i => outer (comp l (tr l.length i)) l.length == !(outer l l.length))
theorem u1 : ∀ a, a < 1 → okU [((a : Nat) : Int)] = true := by decide +kernel
theorem u2 : ∀ a, a < 2 → ∀ b, b < 2 → okU [((a : Nat) : Int), (b : Nat)] = true := by decide +kernel
theorem u3 : ∀ a, a < 3 → ∀ b, b < 3 → ∀ c, c < 3 → okU [((a : Nat) : Int), (b : Nat), (c : Nat)] = true := by decide +kernel
theorem u4 : ∀ a, a < 4 → ∀ b, b < 4 → ∀ c, c < 4 → ∀ d, d < 4 → okU [((a : Nat) : Int), (b : Nat), (c : Nat), (d : Nat)] = true := by decide +kernel
theorem u5 : ∀ a, a < 5 → ∀ b, b < 5 → ∀ c, c < 5 → ∀ d, d < 5 → ∀ e, e < 5 → okU [((a : Nat) : Int), (b : Nat), (c : Nat), (d : Nat), (e : Nat)] = true := by decide +kernel
theorem okU_all {l : List Int} (h : check l = 0) : okU l = true := by
  obtain ⟨h1, h5, hr, _⟩ := check_ok h
  match l, h1, h5, hr with
  | [a], _, _, hr =>
    obtain ⟨x, hx, rfl⟩ := nat_of (hr a (by simp))
    exact u1 x hx
  | [a, b], _, _, hr =>
    obtain ⟨x, hx, rfl⟩ := nat_of (hr a (by simp)); obtain ⟨y, hy, rfl⟩ := nat_of (hr b (by simp))
    exact u2 x hx y hy
  | [a, b, c], _, _, hr =>
    obtain ⟨x, hx, rfl⟩ := nat_of (hr a (by simp)); obtain ⟨y, hy, rfl⟩ := nat_of (hr b (by simp)); obtain ⟨z, hz, rfl⟩ := nat_of (hr c (by simp))
    exact u3 x hx y hy z hz
  | [a, b, c, d], _, _, hr =>
    obtain ⟨x, hx, rfl⟩ := nat_of (hr a (by simp)); obtain ⟨y, hy, rfl⟩ := nat_of (hr b (by simp)); obtain ⟨z, hz, rfl⟩ := nat_of (hr c (by simp)); obtain ⟨u, hu, rfl⟩ := nat_of (hr d (by simp))
    exact u4 x hx y hy z hz u hu
  | [a, b, c, d, e], _, _, hr =>
    obtain ⟨x, hx, rfl⟩ := nat_of (hr a (by simp)); obtain ⟨y, hy, rfl⟩ := nat_of (hr b (by simp)); obtain ⟨z, hz, rfl⟩ := nat_of (hr c (by simp)); obtain ⟨u, hu, rfl⟩ := nat_of (hr d (by simp)); obtain ⟨t, ht, rfl⟩ := nat_of (hr e (by simp))
    exact u5 x hx y hy z hz u hu t ht
  | _ :: _ :: _ :: _ :: _ :: _ :: _, _, h5, _ => exact absurd h5 (by simp)
structure Unary (l : List Int) : Prop where
  left : comp (inv l) l = ids l.length
  right : comp l (inv l) = ids l.length
  ok : check (inv l) = 0
  neutral : comp (ids l.length) l = l
  neutral' : comp l (ids l.length) = l
  word : prod l.length (wordOf 12 l) = l
  small : ∀ i ∈ wordOf 12 l, i + 1 < l.length
  par : outer l l.length = parity (wordOf 12 l)
  turn : ∀ i, i + 1 < l.length → outer (comp l (tr l.length i)) l.length = !(outer l l.length)
theorem unary {l : List Int} (h : check l = 0) : Unary l := by
  have hu := okU_all h
  unfold okU at hu
  rw [h] at hu
  simp only [beq_self_eq_true, Bool.not_true, Bool.false_or, Bool.and_eq_true, beq_iff_eq, List.all_eq_true, decide_eq_true_eq, List.mem_range] at hu
  obtain ⟨⟨⟨⟨⟨⟨⟨⟨h1, h2⟩, h3⟩, h4⟩, h5⟩, h6⟩, h7⟩, h8⟩, h9⟩ := hu
  exact ⟨h1, h2, h3, h4, h5, h6, h7, h8, fun i hi => h9 i (by omega)⟩
theorem tr_length (n i : Nat) : (tr n i).length = n := by simp [tr, ids_length]
theorem tr_ok : ∀ n, n < 6 → ∀ i, i < 5 → i + 1 < n → check (tr n i) = 0 := by decide +kernel
theorem prod_length (n : Nat) : ∀ w, (prod n w).length = n
  | [] => ids_length n
  | i :: w => by rw [prod, comp_length, tr_length]
theorem ids_ok : ∀ n, n < 6 → 1 ≤ n → check (ids n) = 0 := by decide +kernel
theorem prod_ok {n : Nat} (h1 : 1 ≤ n) (h5 : n ≤ 5) : ∀ w, (∀ i ∈ w, i + 1 < n) → check (prod n w) = 0
  | [], _ => ids_ok n (by omega) h1
  | i :: w, h => comp_ok (prod_ok h1 h5 w fun j hj => h j (by simp [hj])) (tr_ok n (by omega) i (by have := h i (by simp); omega) (h i (by simp))) (by rw [tr_length, prod_length])
/-- The parity of a product with neighbours that change places. -/
theorem par_prod {a : List Int} (ha : check a = 0) : ∀ w, (∀ i ∈ w, i + 1 < a.length) → outer (comp a (prod a.length w)) a.length = (outer a a.length != parity w)
  | [], _ => by rw [prod, (unary ha).neutral']; simp [parity]
  | i :: w, h => by
    obtain ⟨h1, h5, hfa, _⟩ := check_ok ha
    have hw : ∀ j ∈ w, j + 1 < a.length := fun j hj => h j (by simp [hj])
    have hi := h i (by simp)
    have hp := prod_ok h1 h5 w hw
    have hc := comp_ok ha hp (prod_length _ _)
    have hl : (comp a (prod a.length w)).length = a.length := by rw [comp_length, prod_length]
    have ht := (unary hc).turn i (by rw [hl]; exact hi)
    rw [hl] at ht
    have hf : Fits (prod a.length w).length (tr a.length i) := by
      have := (check_ok (tr_ok a.length (by omega) i (by omega) hi)).2.2.1
      rw [tr_length] at this
      rw [prod_length]; exact this
    rw [prod, ← comp_assoc hf, ht, par_prod ha w hw]
    cases outer a a.length <;> cases h2 : parity w <;> simp [parity, h2]
/-- A composition is odd exactly if one of its parts alone is. -/
theorem par_comp {a b : List Int} (ha : check a = 0) (hb : check b = 0) (hl : b.length = a.length) : outer (comp a b) a.length = (outer a a.length != outer b a.length) := by
  have u := unary hb
  have h := par_prod ha (wordOf 12 b) (fun i hi => by have := u.small i hi; omega)
  have hw : prod a.length (wordOf 12 b) = b := by rw [← hl]; exact u.word
  rw [hw] at h
  rw [h, ← hl, u.par]
end Go.Perm
