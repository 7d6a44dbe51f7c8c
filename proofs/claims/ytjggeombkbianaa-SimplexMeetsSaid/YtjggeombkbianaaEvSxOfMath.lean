/-
  Of by sorting and by putting in: the same list.
-/
import Derived.Test.YtjggeombkbianaaEvSxRefOf
import Derived.Lib.SlicesCompact
namespace Go.Proofs.Ytjggeombkbianaa.Sx
open Go Go.Sx

/-- Each once, in ascending order. -/
abbrev Asc (l : List V) : Prop := l.Pairwise fun a b => cmpV a b = -1
theorem asc_ext : ∀ {l m : List V}, Asc l → Asc m → (∀ x, x ∈ l ↔ x ∈ m) → l = m
  | [], [], _, _, _ => rfl
  | [], b :: m, _, _, h => absurd ((h b).2 (by simp)) (by simp)
  | a :: l, [], _, _, h => absurd ((h a).1 (by simp)) (by simp)
  | a :: l, b :: m, hl, hm, h => by
    replace hl := List.pairwise_cons.1 hl
    replace hm := List.pairwise_cons.1 hm
    have hab : a = b := by
      rcases List.mem_cons.1 ((h a).1 (by simp)) with e | h1
      · exact e
      · rcases List.mem_cons.1 ((h b).2 (by simp)) with e | h2
        · exact e.symm
        · have h3 := hm.1 a h1
          have h4 := hl.1 b h2
          have h5 := cmpV_anti a b
          omega
    subst hab
    rw [asc_ext hl.2 hm.2 (fun x => ?_)]
    constructor
    · intro hx
      rcases List.mem_cons.1 ((h x).1 (by simp [hx])) with e | h1
      · subst e; have := hl.1 x hx; rw [cmpV_same] at this; omega
      · exact h1
    · intro hx
      rcases List.mem_cons.1 ((h x).2 (by simp [hx])) with e | h1
      · subst e; have := hm.1 x hx; rw [cmpV_same] at this; omega
      · exact h1
theorem asc_snoc {l : List V} {v : V} (h : Asc l) (hv : ∀ x ∈ l, cmpV x v = -1) : Asc (l ++ [v]) := by
  refine List.pairwise_append.2 ?_
  exact ⟨h, by simp, fun a ha b hb => by rw [List.mem_singleton.1 hb]; exact hv a ha⟩
theorem asc_vx {s : List V} (h : Asc s) {i j : Nat} (hij : i < j) (hj : j < s.length) : cmpV (vx s i) (vx s j) = -1 := by
  rw [vx_get hj, vx_get (Nat.lt_trans hij hj)]
  exact List.pairwise_iff_getElem.1 h i j (Nat.lt_trans hij hj) hj hij
theorem mem_take_succ {s : List V} {k : Nat} (hk : k < s.length) (x : V) : x ∈ s.take (k + 1) ↔ x ∈ s.take k ∨ x = vx s k := by
  rw [← List.take_append_getElem hk, List.mem_append, List.mem_singleton, vx_get hk]
theorem putTo_inv (s : List V) (v : V) (hs : Asc s) (hv : v ∉ s) : ∀ k, k ≤ s.length → Asc (putTo s v k).1 ∧ (∀ x, x ∈ (putTo s v k).1 ↔ x ∈ s.take k ∨ ((putTo s v k).2 = true ∧ x = v)) ∧
    (∀ x ∈ (putTo s v k).1, ∀ j, k ≤ j → j < s.length → cmpV x (vx s j) = -1) ∧ ((putTo s v k).2 = false → ∀ x ∈ (putTo s v k).1, cmpV x v = -1)
  | 0, _ => by simp [putTo]
  | k + 1, hk => by
    obtain ⟨i1, i2, i3, i4⟩ := putTo_inv s v hs hv k (by omega)
    have hkl : k < s.length := by omega
    unfold putTo
    by_cases hc : (putTo s v k).2 = false ∧ cmpV v (vx s k) < 0
    · rw [if_pos hc]
      have hvk : cmpV v (vx s k) = -1 := by have := cmpV_range v (vx s k); omega
      have h1 := asc_snoc i1 (i4 hc.1)
      refine ⟨asc_snoc h1 fun x hx => ?_, fun x => ?_, fun x hx j hj hjl => ?_, fun h => by cases h⟩
      · rcases List.mem_append.1 hx with h | h
        · exact i3 x h k (Nat.le_refl _) hkl
        · rw [List.mem_singleton.1 h]; exact hvk
      · rw [mem_take_succ hkl]
        simp only [List.mem_append, List.mem_singleton]
        rw [i2 x, hc.1]
        constructor
        · rintro ((h | h) | h)
          · rcases h with h | ⟨h, _⟩
            · exact .inl (.inl h)
            · cases h
          · exact .inr ⟨trivial, h⟩
          · exact .inl (.inr h)
        · rintro ((h | h) | ⟨_, h⟩)
          · exact .inl (.inl (.inl h))
          · exact .inr h
          · exact .inl (.inr h)
      · rcases List.mem_append.1 hx with h | h
        · rcases List.mem_append.1 h with h | h
          · exact i3 x h j (by omega) hjl
          · rw [List.mem_singleton.1 h]; exact cmpV_trans hvk (asc_vx hs (by omega) hjl)
        · rw [List.mem_singleton.1 h]; exact asc_vx hs (by omega) hjl
    · rw [if_neg hc]
      refine ⟨asc_snoc i1 fun x hx => i3 x hx k (Nat.le_refl _) hkl, fun x => ?_, fun x hx j hj hjl => ?_, fun hf x hx => ?_⟩
      · rw [mem_take_succ hkl]
        simp only [List.mem_append, List.mem_singleton]
        rw [i2 x]
        constructor
        · rintro ((h | h) | h)
          · exact .inl (.inl h)
          · exact .inr h
          · exact .inl (.inr h)
        · rintro ((h | h) | h)
          · exact .inl (.inl h)
          · exact .inr h
          · exact .inl (.inr h)
      · rcases List.mem_append.1 hx with h | h
        · exact i3 x h j (by omega) hjl
        · rw [List.mem_singleton.1 h]; exact asc_vx hs (by omega) hjl
      · rcases List.mem_append.1 hx with h | h
        · exact i4 hf x h
        · rw [List.mem_singleton.1 h]
          have h1 : ¬ cmpV v (vx s k) < 0 := fun e => hc ⟨hf, e⟩
          have h2 : cmpV v (vx s k) ≠ 0 := fun e => hv (by rw [cmpV_zero.1 e]; exact vx_mem hkl)
          have := cmpV_range v (vx s k)
          have := cmpV_anti v (vx s k)
          omega
theorem put_inv (s : List V) (v : V) (hs : Asc s) : Asc (put s v) ∧ ∀ x, x ∈ put s v ↔ x ∈ s ∨ x = v := by
  unfold put
  by_cases hv : v ∈ s
  · rw [if_pos hv]
    exact ⟨hs, fun x => ⟨.inl, fun h => h.elim id fun e => by rw [e]; exact hv⟩⟩
  · rw [if_neg hv]
    obtain ⟨i1, i2, _, i4⟩ := putTo_inv s v hs hv s.length (Nat.le_refl _)
    rw [List.take_length] at i2
    by_cases hf : (putTo s v s.length).2 = true
    · rw [if_pos hf]
      refine ⟨i1, fun x => ?_⟩
      rw [i2 x, hf]; simp
    · rw [if_neg hf]
      have hf' : (putTo s v s.length).2 = false := by simpa using hf
      refine ⟨asc_snoc i1 (i4 hf'), fun x => ?_⟩
      rw [List.mem_append, List.mem_singleton, i2 x, hf']; simp
theorem ofTo_inv (A : List V) : ∀ k, Asc (ofTo A k) ∧ ∀ x, x ∈ ofTo A k ↔ ∃ j, j < k ∧ vx A j = x
  | 0 => by simp [ofTo]
  | k + 1 => by
    obtain ⟨i1, i2⟩ := ofTo_inv A k
    obtain ⟨p1, p2⟩ := put_inv (ofTo A k) (vx A k) i1
    refine ⟨p1, fun x => ?_⟩
    show x ∈ put (ofTo A k) (vx A k) ↔ _
    rw [p2 x, i2 x]
    constructor
    · rintro (⟨j, hj, e⟩ | e)
      · exact ⟨j, by omega, e⟩
      · exact ⟨k, by omega, e.symm⟩
    · rintro ⟨j, hj, e⟩
      by_cases h : j = k
      · subst h; exact .inr e.symm
      · exact .inl ⟨j, by omega, e⟩
open Go.Lib (keeps keeps_pos keeps_neg compactUpTo compactUpTo_succ) in
theorem compact_inv (d : Array V) (hd : ∀ i j, i < j → j < d.size → cmpV d[i]! d[j]! ≤ 0) : ∀ m, m ≤ d.size → Asc (compactUpTo d m) ∧ ∀ x, x ∈ compactUpTo d m ↔ ∃ j, j < m ∧ d[j]! = x
  | 0, _ => by simp [compactUpTo]
  | m + 1, hm => by
    obtain ⟨i1, i2⟩ := compact_inv d hd m (by omega)
    rw [compactUpTo_succ]
    by_cases hk : keeps d m = true
    · rw [if_pos hk]
      refine ⟨asc_snoc i1 fun x hx => ?_, fun x => ?_⟩
      · obtain ⟨i, hi, rfl⟩ := (i2 x).1 hx
        have h1 := hd i m hi (by omega)
        have h2 := cmpV_range d[i]! d[m]!
        by_cases h0 : cmpV d[i]! d[m]! = 0
        · exfalso
          have e := cmpV_zero.1 h0
          have hne : d[m]! ≠ d[m - 1]! := by
            simp only [keeps, decide_eq_true_eq] at hk
            rcases hk with h | h
            · omega
            · exact h
          by_cases hi1 : i = m - 1
          · subst hi1; exact hne e.symm
          · have h3 := hd i (m - 1) (by omega) (by omega)
            have h4 := hd (m - 1) m (by omega) (by omega)
            rw [e] at h3
            have h5 := cmpV_anti d[m]! d[m - 1]!
            exact hne (cmpV_zero.1 (by omega))
        · omega
      · rw [List.mem_append, List.mem_singleton, i2 x]
        constructor
        · rintro (⟨j, hj, e⟩ | e)
          · exact ⟨j, by omega, e⟩
          · exact ⟨m, by omega, e.symm⟩
        · rintro ⟨j, hj, e⟩
          by_cases h : j = m
          · subst h; exact .inr e.symm
          · exact .inl ⟨j, by omega, e⟩
    · rw [if_neg hk]
      simp only [List.append_nil]
      refine ⟨i1, fun x => ?_⟩
      rw [i2 x]
      constructor
      · rintro ⟨j, hj, e⟩; exact ⟨j, by omega, e⟩
      · rintro ⟨j, hj, e⟩
        by_cases h : j = m
        · subst h
          have hne : ¬ (j = 0 ∨ d[j]! ≠ d[j - 1]!) := by simpa [keeps] using hk
          have h0 : j ≠ 0 := fun e => hne (.inl e)
          have h1 : d[j]! = d[j - 1]! := by
            by_cases h1 : d[j]! = d[j - 1]!
            · exact h1
            · exact absurd (.inr h1) hne
          exact ⟨j - 1, by omega, by rw [← h1]; exact e⟩
        · exact ⟨j, by omega, e⟩
/-- Sorted, and each once: the reference's Of. -/
theorem of_sorted (A : List V) (d : Array V) (hd : ∀ i j, i < j → j < d.size → cmpV d[i]! d[j]! ≤ 0) (hp : ∀ x, x ∈ d.toList ↔ x ∈ A) : Lib.compactUpTo d d.size = ofTo A A.length := by
  obtain ⟨c1, c2⟩ := compact_inv d hd d.size (Nat.le_refl _)
  obtain ⟨o1, o2⟩ := ofTo_inv A A.length
  refine asc_ext c1 o1 fun x => ?_
  rw [c2 x, o2 x]
  have hx : (∃ j, j < d.size ∧ d[j]! = x) ↔ x ∈ d.toList := by
    rw [List.mem_iff_getElem]
    constructor
    · rintro ⟨j, hj, e⟩; exact ⟨j, by simpa using hj, by rw [← e]; simp [hj]⟩
    · rintro ⟨j, hj, e⟩; exact ⟨j, by simpa using hj, by rw [← e]; simp at hj; simp [hj]⟩
  rw [hx, hp x, List.mem_iff_getElem]
  constructor
  · rintro ⟨j, hj, e⟩; exact ⟨j, hj, by rw [vx_get hj]; exact e⟩
  · rintro ⟨j, hj, e⟩; exact ⟨j, hj, by rw [← vx_get hj]; exact e⟩
theorem merge_sorted (A : List V) (le : V → V → Bool) (hle : ∀ x y, le x y = true ↔ cmpV x y ≤ 0) : (∀ i j, i < j → j < (A.mergeSort le).toArray.size → cmpV (A.mergeSort le).toArray[i]! (A.mergeSort le).toArray[j]! ≤ 0) ∧ ∀ x, x ∈ (A.mergeSort le).toArray.toList ↔ x ∈ A := by
  have htr : ∀ a b c : V, le a b = true → le b c = true → le a c = true := by
    intro a b c h1 h2
    rw [hle] at *
    have r1 := cmpV_range a b
    have r2 := cmpV_range b c
    by_cases e1 : cmpV a b = 0
    · rw [cmpV_zero.1 e1]; exact h2
    · by_cases e2 : cmpV b c = 0
      · rw [← cmpV_zero.1 e2]; exact h1
      · have := cmpV_trans (a := a) (b := b) (c := c) (by omega) (by omega); omega
  have hto : ∀ a b : V, (le a b || le b a) = true := by
    intro a b
    rw [Bool.or_eq_true, hle, hle]
    have := cmpV_anti a b
    omega
  have hP := List.pairwise_mergeSort htr hto A
  refine ⟨fun i j hij hj => ?_, fun x => by simp⟩
  have hj' : j < (A.mergeSort le).length := by simpa using hj
  have := List.pairwise_iff_getElem.1 hP i j (by omega) hj' hij
  rw [hle] at this
  have hi' : i < (A.mergeSort le).length := by omega
  rw [getElem!_pos (A.mergeSort le).toArray i (by simpa using hi'), getElem!_pos (A.mergeSort le).toArray j (by simpa using hj')]
  exact this
end Go.Proofs.Ytjggeombkbianaa.Sx
