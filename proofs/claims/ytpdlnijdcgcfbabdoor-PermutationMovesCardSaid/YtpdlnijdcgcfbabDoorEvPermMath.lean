/-
  Plain facts on permutations of at most five processes: their check, the image of a set, the moved vector.
-/
import GoSem.Step
namespace Go.Perm

/-- The error of the rest of a list, behind what has been looked at. -/
def chk (n : Nat) : List Int → List Int → Int
  | [], _ => 0
  | x :: xs, pre => if x < 0 ∨ (n : Int) ≤ x then 2 else if x ∈ pre then 7 else chk n xs (pre ++ [x])
/-- The error of a list. -/
def check (l : List Int) : Int := if l.length < 1 ∨ 5 < l.length then 2 else chk l.length l []

theorem chk_range {n : Nat} {x : Int} {xs pre : List Int} (h : x < 0 ∨ (n : Int) ≤ x) : chk n (x :: xs) pre = 2 := by rw [chk, if_pos h]
theorem chk_twice {n : Nat} {x : Int} {xs pre : List Int} (h0 : 0 ≤ x) (h1 : x < n) (h : x ∈ pre) : chk n (x :: xs) pre = 7 := by rw [chk, if_neg (by omega), if_pos h]
theorem chk_more {n : Nat} {x : Int} {xs pre : List Int} (h0 : 0 ≤ x) (h1 : x < n) (h : x ∉ pre) : chk n (x :: xs) pre = chk n xs (pre ++ [x]) := by rw [chk, if_neg (by omega), if_neg h]
theorem check_len {l : List Int} (h : l.length < 1 ∨ 5 < l.length) : check l = 2 := by rw [check, if_pos h]
theorem check_chk {l : List Int} (h : 1 ≤ l.length) (h5 : l.length ≤ 5) : check l = chk l.length l [] := by rw [check, if_neg (by omega)]

theorem chk_ok {n : Nat} : ∀ {xs pre : List Int}, chk n xs pre = 0 → (∀ x ∈ xs, 0 ≤ x ∧ x < n) ∧ xs.Nodup ∧ ∀ x ∈ xs, x ∉ pre
  | [], _, _ => ⟨(fun x h => by cases h), List.nodup_nil, (fun x h => by cases h)⟩
  | x :: xs, pre, h => by
    by_cases h1 : x < 0 ∨ (n : Int) ≤ x
    · rw [chk_range h1] at h; omega
    · by_cases h2 : x ∈ pre
      · rw [chk_twice (by omega) (by omega) h2] at h; omega
      · rw [chk_more (by omega) (by omega) h2] at h
        obtain ⟨a, b, c⟩ := chk_ok h
        refine ⟨fun y hy => ?_, ?_, fun y hy => ?_⟩
        · rcases List.mem_cons.1 hy with rfl | hy
          · omega
          · exact a y hy
        · refine List.nodup_cons.2 ⟨fun hx => ?_, b⟩
          exact c x hx (by simp)
        · rcases List.mem_cons.1 hy with rfl | hy
          · exact h2
          · exact fun hp => c y hy (by simp [hp])
/-- What a good list is. -/
theorem check_ok {l : List Int} (h : check l = 0) : 1 ≤ l.length ∧ l.length ≤ 5 ∧ (∀ x ∈ l, 0 ≤ x ∧ x < l.length) ∧ l.Nodup := by
  by_cases hl : l.length < 1 ∨ 5 < l.length
  · rw [check_len hl] at h; omega
  · rw [check_chk (by omega) (by omega)] at h
    obtain ⟨a, b, _⟩ := chk_ok h
    exact ⟨by omega, by omega, a, b⟩

/-- The image of a set under the elements of a list, from an index on. -/
def img (set : Nat) : List Int → Nat → Nat → Nat
  | [], _, out => out
  | q :: l, i, out => img set l (i + 1) (if set / 2 ^ i % 2 = 1 then out ||| 2 ^ q.toNat else out)
theorem img_yes {set i out : Nat} {q : Int} {l : List Int} (h : set / 2 ^ i % 2 = 1) : img set (q :: l) i out = img set l (i + 1) (out ||| 2 ^ q.toNat) := by rw [img, if_pos h]
theorem img_no {set i out : Nat} {q : Int} {l : List Int} (h : set / 2 ^ i % 2 = 0) : img set (q :: l) i out = img set l (i + 1) out := by rw [img, if_neg (by omega)]
theorem or_lt (a p n : Nat) (ha : a < 2 ^ n) (hp : p < n) : a ||| 2 ^ p < 2 ^ n := Nat.or_lt_two_pow ha (Nat.pow_lt_pow_right (by omega) hp)

/-- The vector whose element with the index a[p] is v[p]: the first k stores. -/
def mv (a v : List Int) : Nat → List Int
  | 0 => List.replicate v.length 0
  | k + 1 => (mv a v k).set (a.getD k 0).toNat (v.getD k 0)
theorem mv_length (a v : List Int) (k : Nat) : (mv a v k).length = v.length := by
  induction k with
  | zero => simp [mv]
  | succ k ih => simp [mv, ih]
theorem getD_mem {l : List Int} {k : Nat} (h : k < l.length) : l.getD k 0 ∈ l := by
  rw [List.getD_eq_getElem?_getD, List.getElem?_eq_getElem h]; exact List.getElem_mem h
theorem drop_cons {l : List Int} {k : Nat} (h : k < l.length) : l.drop k = l.getD k 0 :: l.drop (k + 1) := by
  rw [List.drop_eq_getElem_cons h]; simp [List.getD, List.getElem?_eq_getElem h]
theorem take_snoc {l : List Int} {k : Nat} (h : k < l.length) : l.take (k + 1) = l.take k ++ [l.getD k 0] := by
  rw [List.take_succ_eq_append_getElem h]; simp [List.getD, List.getElem?_eq_getElem h]
/-- A member of the first k elements. -/
theorem mem_take {l : List Int} {k : Nat} {x : Int} : x ∈ l.take k ↔ ∃ j, j < k ∧ j < l.length ∧ l.getD j 0 = x := by
  rw [List.mem_take_iff_getElem]
  constructor
  · rintro ⟨j, hj, rfl⟩
    exact ⟨j, by omega, by omega, by simp [List.getD, List.getElem?_eq_getElem (show j < l.length by omega)]⟩
  · rintro ⟨j, h1, h2, rfl⟩
    exact ⟨j, by omega, by simp [List.getD, List.getElem?_eq_getElem h2]⟩
end Go.Perm
