/-
  What the classes of two partitions, of their meet and of their join are, as sets of numbers.
-/
import Derived.Test.YtlacohjecehpiaaEvPaDivide
namespace Go.Part
open Go Go.Col Go.Law
open Go.Proofs.Ytlacohjecehpiaa.Part (mask sets clsAll cls cN wf_nat cut cut_wf cut_len glue glue_wf glue_len glue_conn clsAll_len cls_some)

def ints (l : List Nat) : List Int := l.map fun (m : Nat) => (m : Int)
def masks (n : Nat) (l : List Int) : List Nat := (clsAll l).map (maskN n)
def inn (x : Nat) (Y : List Nat) : List Nat := (Y.map fun d => x &&& d).filter fun z => z != 0
def wantN (X Y : List Nat) : List Nat := X.flatMap fun c => inn c Y
theorem ints_len (l : List Nat) : (ints l).length = l.length := by simp [ints]
theorem ints_get (l : List Nat) (j : Nat) : (ints l).getD j 0 = ((l.getD j 0 : Nat) : Int) := by
  simp only [ints, List.getD_eq_getElem?_getD, List.getElem?_map]
  cases l[j]? <;> rfl
theorem ints_app (l k : List Nat) : ints (l ++ k) = ints l ++ ints k := by simp [ints]
theorem inn_hit {x : Nat} {Y : List Nat} {j : Nat} (hj : j < Y.length) (h : x &&& Y.getD j 0 ≠ 0) : inn x (Y.take (j + 1)) = inn x (Y.take j) ++ [x &&& Y.getD j 0] := by
  have e : Y.getD j 0 = Y[j] := by simp [List.getD_eq_getElem?_getD, hj]
  rw [List.take_succ_eq_append_getElem hj]
  rw [e] at h ⊢
  unfold inn
  rw [List.map_append, List.filter_append, List.map_cons, List.map_nil, List.filter_cons, if_pos (by simpa using h), List.filter_nil]
theorem inn_miss {x : Nat} {Y : List Nat} {j : Nat} (hj : j < Y.length) (h : x &&& Y.getD j 0 = 0) : inn x (Y.take (j + 1)) = inn x (Y.take j) := by
  have e : Y.getD j 0 = Y[j] := by simp [List.getD_eq_getElem?_getD, hj]
  rw [List.take_succ_eq_append_getElem hj]
  rw [e] at h
  unfold inn
  rw [List.map_append, List.filter_append, List.map_cons, List.map_nil, List.filter_cons, if_neg (by simpa using h), List.filter_nil, List.append_nil]
theorem want_succ {X Y : List Nat} {k : Nat} (hk : k < X.length) : wantN (X.take (k + 1)) Y = wantN (X.take k) Y ++ inn (X.getD k 0) Y := by
  have e : X.getD k 0 = X[k] := by simp [List.getD_eq_getElem?_getD, hk]
  rw [List.take_succ_eq_append_getElem hk, e]
  unfold wantN
  rw [List.flatMap_append, List.flatMap_cons, List.flatMap_nil, List.append_nil]
theorem sum_succ {X : List Nat} {k : Nat} (hk : k < X.length) : (X.take (k + 1)).sum = (X.take k).sum + X.getD k 0 := by
  have e : X.getD k 0 = X[k] := by simp [List.getD_eq_getElem?_getD, hk]
  rw [List.take_succ_eq_append_getElem hk, e, List.sum_append]
  rw [List.sum_cons, List.sum_nil, Nat.add_zero]
theorem fine {n : Nat} {l : List Int} (hl : l.length = n) (hw : wf l) : l ∈ parts n := by
  refine List.mem_filter.2 ⟨mem_lists n n l hl fun x hx => ?_, by simpa [wfB, wf] using hw⟩
  obtain ⟨i, hi, rfl⟩ := List.mem_iff_getElem.1 hx
  obtain ⟨y, hy, hlt⟩ := wf_nat hw hi
  have hc : cN l ≤ l.length := cnt_le _ _
  refine ⟨y, by omega, ?_⟩
  rw [← hy]; simp [List.getD_eq_getElem?_getD, hi]
theorem one_ok {n : Nat} {l : List Int} (h5 : n < 6) (hl : l.length = n) (hw : wf l) : okSets n l = true ∧ okSum n l = true := by
  have := List.all_eq_true.1 (one_all n h5) l (fine hl hw)
  simpa using this
theorem two_ok {n : Nat} {a b : List Int} (h5 : n < 6) (ha : a.length = n) (hwa : wf a) (hb : b.length = n) (hwb : wf b) : okMeet n a b = true ∧ okIn n a b = true := by
  have := List.all_eq_true.1 (List.all_eq_true.1 (two_all n h5) a (fine ha hwa)) b (fine hb hwb)
  simpa using this
/-- What is known about the classes of one partition. -/
structure Sets (n : Nat) (l : List Int) : Prop where
  scan : ∀ j, j < (clsAll l).length → (scan n ((clsAll l).getD j []) 0).2 = 0
  sets : sets n (clsAll l) (clsAll l).length = ints (masks n l)
  lt : ∀ j, j < (masks n l).length → (masks n l).getD j 0 < 32
  sum : (masks n l).sum = 2 ^ n - 1
  len : (masks n l).length = (clsAll l).length
  few : (clsAll l).length ≤ n
theorem sets_of {n : Nat} {l : List Int} (h5 : n < 6) (hl : l.length = n) (hw : wf l) : Sets n l := by
  obtain ⟨h1, h2⟩ := one_ok h5 hl hw
  have hall : ∀ c ∈ clsAll l, (Go.Col.scan n c 0).2 = 0 ∧ mask n c = ((maskN n c : Nat) : Int) ∧ maskN n c < 2 ^ n := by
    intro c hc
    have := List.all_eq_true.1 h1 c hc
    simp only [Bool.and_eq_true, beq_iff_eq, decide_eq_true_eq] at this
    exact ⟨this.1.1, this.1.2, this.2⟩
  have hmem : ∀ j, j < (clsAll l).length → (clsAll l).getD j [] ∈ clsAll l := fun j hj => by
    rw [List.getD_eq_getElem?_getD, List.getElem?_eq_getElem hj]; exact List.getElem_mem hj
  refine ⟨fun j hj => (hall _ (hmem j hj)).1, ?_, fun j hj => ?_, by simpa [okSum, masks] using h2, by simp [masks], ?_⟩
  · apply List.ext_getElem (by simp [Go.Proofs.Ytlacohjecehpiaa.Part.sets, ints, masks])
    intro j h1 h2
    have hj : j < (clsAll l).length := by simpa [Go.Proofs.Ytlacohjecehpiaa.Part.sets] using h1
    have := (hall _ (hmem j hj)).2.1
    rw [List.getD_eq_getElem?_getD, List.getElem?_eq_getElem hj] at this
    simpa [Go.Proofs.Ytlacohjecehpiaa.Part.sets, ints, masks, List.getD_eq_getElem?_getD, List.getElem?_eq_getElem hj] using this
  · have hj' : j < (clsAll l).length := by simpa [masks] using hj
    have := (hall _ (hmem j hj')).2.2
    have e : (masks n l).getD j 0 = maskN n ((clsAll l).getD j []) := by
      simp [masks, List.getD_eq_getElem?_getD, List.getElem?_eq_getElem hj']
    rw [e]
    exact Nat.lt_of_lt_of_le this (Nat.pow_le_pow_right (by omega) (show n ≤ 5 by omega))
  · rw [clsAll_len, ← hl]; exact cnt_le _ _
theorem pos_of {n : Nat} {l : List Int} (h1 : 1 ≤ n) (h : Sets n l) : 0 < (masks n l).length := by
  rcases Nat.eq_zero_or_pos (masks n l).length with e | e
  · have := h.sum
    rw [List.length_eq_zero_iff.1 e] at this
    have h2 : 2 ^ 1 ≤ 2 ^ n := Nat.pow_le_pow_right (by omega) h1
    simp at this; omega
  · exact e
theorem want_perm {n : Nat} {a b : List Int} (h5 : n < 6) (ha : a.length = n) (hwa : wf a) (hb : b.length = n) (hwb : wf b) : (wantN (masks n a) (masks n b)).Perm (masks n (cut a b)) := by
  have h := (two_ok h5 ha hwa hb hwb).1
  have h := List.isPerm_iff.1 h
  have e : wantOf n a b = wantN (masks n a) (masks n b) := by
    simp only [wantOf, wantN, masks, inn, List.flatMap_map, List.map_map]
    rfl
  rw [e] at h
  have e2 : cut a b = labs (fun i => (a.getD i 0, b.getD i 0)) n := by rw [← ha]; rfl
  rw [e2]; exact h
theorem in_of {n : Nat} {a j : List Int} (h5 : n < 6) (ha : a.length = n) (hwa : wf a) (hj : j.length = n) (hwj : wf j) (hf : ∀ p q, p < n → q < n → a.getD p 0 = a.getD q 0 → j.getD p 0 = j.getD q 0) :
    ∀ s ∈ masks n j, ∀ c ∈ masks n a, c &&& s = 0 ∨ c &&& s = c := by
  have h := (two_ok h5 ha hwa hj hwj).2
  have hfin : finerB n a j = true := by
    simp only [finerB, List.all_eq_true, List.mem_range, Bool.or_eq_true, Bool.not_eq_true', beq_eq_false_iff_ne, beq_iff_eq]
    intro p hp q hq
    by_cases e : a.getD p 0 = a.getD q 0
    · exact .inr (hf p q hp hq e)
    · exact .inl e
  simp only [okIn, hfin, Bool.not_true, Bool.false_or, List.all_eq_true, Bool.or_eq_true, beq_iff_eq] at h
  intro s hs c hc
  simp only [masks, List.mem_map] at hs hc
  obtain ⟨s, hs, rfl⟩ := hs
  obtain ⟨c, hc, rfl⟩ := hc
  exact h s hs c hc
theorem asc_eq {l k : List Nat} (h : l.Perm k) : (ints l).mergeSort (fun x y => decide (x ≤ y)) = (ints k).mergeSort fun x y => decide (x ≤ y) := by
  have hp : (ints l).Perm (ints k) := h.map _
  have s1 := List.pairwise_mergeSort (le := fun x y : Int => decide (x ≤ y)) (by intro a b c; simp; omega) (by intro a b; simp; omega) (ints l)
  have s2 := List.pairwise_mergeSort (le := fun x y : Int => decide (x ≤ y)) (by intro a b c; simp; omega) (by intro a b; simp; omega) (ints k)
  refine List.Perm.eq_of_pairwise (le := fun x y : Int => decide (x ≤ y) = true) ?_ s1 s2 ((List.mergeSort_perm _ _).trans (hp.trans (List.mergeSort_perm _ _).symm))
  intro a b _ _ h1 h2
  simp at h1 h2; omega
theorem and_lt (x y : Nat) (h : x < 32) : x &&& y < 32 := Nat.lt_of_le_of_lt Nat.and_le_left h
theorem and_not : ∀ c : Nat, c < 32 → ∀ s : Nat, s < 32 → c &&& s = c → bits .andNot .i64 (c : Int) (s : Int) = 0 := by decide +kernel
end Go.Part
