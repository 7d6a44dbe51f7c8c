/-
  Union and Join.
-/
import Derived.Test.YtjggeombkbianaaEvSxMeet
import Derived.Test.YtjggeombkbianaaEvSxConcat
import Derived.Test.YtjggeombkbianaaEvSxOf
import Derived.Test.YtjggeombkbianaaEvSxColors
namespace Go.Proofs.Ytjggeombkbianaa.Sx
open Go Go.RowKit Go.Law Go.Sx

/-! The mathematics. -/
theorem asc_simp {l : List V} (h : Simp l) : Asc l := by
  have key : ∀ d i, i + d + 1 < l.length → cmpV (vx l i) (vx l (i + d + 1)) = -1 := by
    intro d
    induction d with
    | zero => intro i hi; exact h.up i hi
    | succ d ih => intro i hi; exact cmpV_trans (ih i (by omega)) (h.up (i + d + 1) (by omega))
  refine List.pairwise_iff_getElem.2 fun i j hi hj hij => ?_
  have := key (j - i - 1) i (by omega)
  rw [show i + (j - i - 1) + 1 = j by omega, vx_get hi, vx_get hj] at this
  exact this
/-- The reference's union: the members of B put in. -/
def bothTo (A B : List V) : Nat → List V
  | 0 => A
  | k + 1 => put (bothTo A B k) (vx B k)
theorem bothTo_inv (A B : List V) (hA : Asc A) : ∀ k, Asc (bothTo A B k) ∧ ∀ x, x ∈ bothTo A B k ↔ x ∈ A ∨ ∃ j, j < k ∧ vx B j = x
  | 0 => ⟨hA, fun x => by simp [bothTo]⟩
  | k + 1 => by
    obtain ⟨i1, i2⟩ := bothTo_inv A B hA k
    obtain ⟨p1, p2⟩ := put_inv (bothTo A B k) (vx B k) i1
    refine ⟨p1, fun x => ?_⟩
    show x ∈ put (bothTo A B k) (vx B k) ↔ _
    rw [p2 x, i2 x]
    constructor
    · rintro ((h | ⟨j, hj, e⟩) | e)
      · exact .inl h
      · exact .inr ⟨j, by omega, e⟩
      · exact .inr ⟨k, by omega, e.symm⟩
    · rintro (h | ⟨j, hj, e⟩)
      · exact .inl (.inl h)
      · by_cases h : j = k
        · subst h; exact .inr e.symm
        · exact .inl (.inr ⟨j, by omega, e⟩)
theorem bothTo_length (A B : List V) (k : Nat) : (bothTo A B k).length ≤ A.length + k := by
  induction k with
  | zero => exact Nat.le_refl _
  | succ k ih => have := (put_length (bothTo A B k) (vx B k)).2; show (put (bothTo A B k) (vx B k)).length ≤ _; omega
theorem mem_vx (B : List V) (x : V) : x ∈ B ↔ ∃ j, j < B.length ∧ vx B j = x := by
  rw [List.mem_iff_getElem]
  constructor
  · rintro ⟨j, hj, e⟩; exact ⟨j, hj, by rw [vx_get hj]; exact e⟩
  · rintro ⟨j, hj, e⟩; exact ⟨j, hj, by rw [← vx_get hj]; exact e⟩
theorem union_both (A B : List V) (hA : Asc A) : ofTo (A ++ B) (A ++ B).length = bothTo A B B.length := by
  obtain ⟨c1, c2⟩ := ofTo_inv (A ++ B) (A ++ B).length
  obtain ⟨o1, o2⟩ := bothTo_inv A B hA B.length
  refine asc_ext c1 o1 fun x => ?_
  rw [c2 x, o2 x, ← mem_vx, ← mem_vx, List.mem_append]
/-- Union's list and error, where both are simplices. -/
def capR (U : List V) : List V × Int := if 8 < U.length then ([], 5) else (U, 0)
def unionR (A B U : List V) : List V × Int := if two A B ≠ 0 then ([], two A B) else capR U
def joinR (A B M U : List V) : List V × Int := if two A B ≠ 0 then ([], two A B) else if 0 < M.length then ([], 7) else capR U
theorem two_zero {A B : List V} (h : two A B = 0) : chk A = 0 ∧ chk B = 0 := by
  unfold two at h
  by_cases e : chk A = 0
  · rw [if_neg (by simpa using e)] at h; exact ⟨e, h⟩
  · rw [if_pos e] at h; exact absurd h e
theorem cap_bad {U : List V} {w w' : World} (h : 8 < U.length) (hb : Below w.heap.size w w') : ResPost (capR U) w (.returned (.tuple #[.slice none 0 0, .int .i64 5])) w' := by
  have e : capR U = ([], 5) := by unfold capR; rw [if_pos h]
  rw [e]
  exact ⟨_, rfl, hb, v_nil _⟩
theorem cap_good {U : List V} {w w' : World} {u : Value} (h : ¬ 8 < U.length) (hb : Below w.heap.size w w') (hu : VTop w' u U) : ResPost (capR U) w (.returned (.tuple #[u, .int .i64 0])) w' := by
  have e : capR U = (U, 0) := by unfold capR; rw [if_neg h]
  rw [e]
  exact ⟨_, rfl, hb, hu⟩

/-! The tail of Union: Concat, sorted, limited. -/
def SlPost (L : List V) (w : World) (e : Ending) (w' : World) : Prop := ∃ a n cap b off, e = .returned (.slice a n cap) ∧ n = L.length ∧ Below w.heap.size w w' ∧ VIn w' a n cap b off L
theorem concat_in (a1 a2 : Option Addr) (n1 n2 k1 k2 b1 o1 b2 o2 : Nat) (A B : List V) (w : World) (h1 : VIn w a1 n1 k1 b1 o1 A) (h2 : VIn w a2 n2 k2 b2 o2 B) (p1 : 0 < n1) (p2 : 0 < n2) (hs : n1 ≤ 40) (ht : n2 ≤ 40) (w1 : World) (hb : Below w.heap.size w w1) (B0 : Nat) (hB0 : B0 = w1.heap.size) :
    Calls Try.prog 63 #[.slice (some ⟨B0, 0, none⟩) 2 2] (w1.alloc (.cells #[.slice a1 n1 k1, .slice a2 n2 k2] 22)) (SlPost (A ++ B) w) := by
  subst hB0
  have hB : Below w.heap.size w (w1.alloc (.cells #[.slice a1 n1 k1, .slice a2 n2 k2] 22)) := hb.alloc hb.size _
  obtain rfl := h1.head p1
  obtain rfl := h2.head p2
  have i1 := h1.below hB
  have i2 := h2.below hB
  refine (concat_ok (B := w1.heap.size) h1.size h2.size p1 hs ht (by rw [World.cell?_alloc_at _ _ _ _ rfl]; rfl) (by rw [World.cell?_alloc_at _ _ _ _ rfl]; rfl) (by simp) (i1.old p1) (i2.old p2) i1.cells i2.cells).mono ?_
  rintro e w' ⟨u, he, hb', a, n, cap, b, off, rfl, i⟩
  exact ⟨a, n, cap, b, off, he, i.size.symm, hB.trans (bel_le hb' hB.size), i⟩
def SlPost2 (U : List V) (w : World) (e : Ending) (w' : World) : Prop := ∃ a cap b off, e = .returned (.slice a U.length cap) ∧ Below w.heap.size w w' ∧ VIn w' a U.length cap b off U
theorem sort_in2 (L : List V) (w : World) (hl : 0 < L.length) (hl2 : L.length ≤ 4096) (a : Option Addr) (n cap b off : Nat) (hn : n = L.length) (w1 : World) (hb : Below w.heap.size w w1) (hi : VIn w1 a n cap b off L) :
    Calls Try.prog 46 #[.slice a n cap] w1 (SlPost2 (ofTo L L.length) w) := by
  subst hn
  refine (sorted_in a _ cap b off L w1 hi hl hl2).mono ?_
  rintro e w2 ⟨g, cap', m, he, rfl, hv, hb2⟩
  exact ⟨_, cap', g, 0, he, hb.trans (bel_le hb2 hb.size), hv⟩
set_option maxRecDepth 100000 in
set_option maxHeartbeats 1000000 in
theorem union_walk (a1 a2 : Option Addr) (n1 n2 k1 k2 : Nat) (A B U : List V) (w : World)
    (HT : Calls Try.prog 54 #[.slice a1 n1 k1, .slice a2 n2 k2] w fun e w' => e = .returned (.int .i64 (two A B)) ∧ Below w.heap.size w w')
    (HC : two A B = 0 → ∀ w1, Below w.heap.size w w1 → ∀ B0, B0 = w1.heap.size → Calls Try.prog 63 #[.slice (some ⟨B0, 0, none⟩) 2 2] (w1.alloc (.cells #[.slice a1 n1 k1, .slice a2 n2 k2] 22)) (SlPost (A ++ B) w))
    (HS : two A B = 0 → ∀ a n cap b off, n = (A ++ B).length → ∀ w1, Below w.heap.size w w1 → VIn w1 a n cap b off (A ++ B) → Calls Try.prog 46 #[.slice a n cap] w1 (SlPost2 U w)) :
    Calls Try.prog 28 #[.slice a1 n1 k1, .slice a2 n2 k2] w (ResPost (unionR A B U) w) := by
  obtain ⟨r, hr⟩ : ∃ r, two A B = r := ⟨_, rfl⟩
  have HBad := Lib.hid (fun (h0 : r ≠ 0) => show unionR A B U = ([], r) by unfold unionR; rw [hr, if_pos h0])
  have HGood := Lib.hid (fun (h0 : r = 0) => show unionR A B U = capR U by unfold unionR; rw [hr, if_neg (by simpa using h0)])
  rw [hr] at HT
  have HZ := Lib.hid hr
  replace HT := Lib.hid HT
  replace HC := Lib.hid (HC ∘ hr.trans)
  replace HS := Lib.hid (HS ∘ hr.trans)
  clear hr
  by_cases h0 : r = 0
  · subst h0
    rw [HGood.out rfl]
    have HC2 := Lib.hid (HC.out rfl)
    have HS3 := Lib.hid (HS.out rfl)
    clear HBad HGood HZ HC HS
    go_enter Try.func28, Try.ntmps28
    go_wp2_with fail
    refine (HT.out).mono ?_
    rintro e w1 ⟨he, hb⟩
    subst he
    have T1 := Lib.hid hb
    clear hb
    go_wp2_with fail
    refine (HC2.out w1 T1.out _ (by first | rfl | simp)).mono ?_
    rintro e w2 ⟨a, n, cap, b, off, he, hn, hb, hv⟩
    subst he
    have HS2 := Lib.hid (HS3.out a n cap b off hn w2 hb hv)
    clear hn hb hv
    go_wp2_with fail
    refine (HS2.out).mono ?_
    rintro e w3 ⟨a', cap', b', off', he, hb, hv⟩
    subst he
    have T3 := Lib.hid hb
    have V3 := Lib.hid hv
    clear hb hv
    generalize hm : U.length = m at *
    have HM := Lib.hid hm
    clear hm
    have HL := Lib.hid (limited_in a' m cap' w3)
    by_cases h8 : 8 < m
    · rw [if_pos h8] at HL
      have H8 := Lib.hid h8
      clear h8
      go_wp2_with (go_at_call 45; refine (HL.out).mono ?_; rintro e w4 ⟨rfl, rfl⟩)
      go_ret2
      exact cap_bad (by rw [HM.out]; exact H8.out) T3.out
    · rw [if_neg h8] at HL
      have H8 := Lib.hid h8
      clear h8
      go_wp2_with (go_at_call 45; refine (HL.out).mono ?_; rintro e w4 ⟨rfl, rfl⟩)
      go_ret2
      exact cap_good (by rw [HM.out]; exact H8.out) T3.out ⟨_, _, _, _, _, rfl, V3.out⟩
  · have hb0 : (r != 0) = true := by simpa using h0
    have H0 := Lib.hid h0
    clear h0
    go_enter Try.func28, Try.ntmps28
    go_wp2_with fail
    refine (HT.out).mono ?_
    rintro e w1 ⟨he, hb⟩
    subst he
    have T1 := Lib.hid hb
    clear hb
    go_wp2
    go_ret2
    have hE := HBad.out H0.out
    exact ⟨.slice none 0 0, by rw [hE]; rfl, T1.out, by rw [hE]; exact v_nil _⟩
set_option maxRecDepth 100000 in
set_option maxHeartbeats 1000000 in
theorem join_walk (a1 a2 : Option Addr) (n1 n2 k1 k2 : Nat) (A B U M : List V) (w : World)
    (HT : Calls Try.prog 54 #[.slice a1 n1 k1, .slice a2 n2 k2] w fun e w' => e = .returned (.int .i64 (two A B)) ∧ Below w.heap.size w w')
    (HF : ∀ w1, Below w.heap.size w w1 → Calls Try.prog 55 #[.slice a1 n1 k1, .func (.func 77) #[] #[.pointer (some ⟨w1.heap.size, 0, none⟩)]] (w1.alloc (.cells #[.slice a2 n2 k2] 22)) fun e w' => ∃ a cap b off, e = .returned (.slice a M.length cap) ∧ Below w.heap.size w w' ∧ VIn w' a M.length cap b off M)
    (HC : two A B = 0 → ∀ w1, Below w.heap.size w w1 → ∀ B0, B0 = w1.heap.size → Calls Try.prog 63 #[.slice (some ⟨B0, 0, none⟩) 2 2] (w1.alloc (.cells #[.slice a1 n1 k1, .slice a2 n2 k2] 22)) (SlPost (A ++ B) w))
    (HS : two A B = 0 → ∀ a n cap b off, n = (A ++ B).length → ∀ w1, Below w.heap.size w w1 → VIn w1 a n cap b off (A ++ B) → Calls Try.prog 46 #[.slice a n cap] w1 (SlPost2 U w)) :
    Calls Try.prog 34 #[.slice a1 n1 k1, .slice a2 n2 k2] w (ResPost (joinR A B M U) w) := by
  obtain ⟨r, hr⟩ : ∃ r, two A B = r := ⟨_, rfl⟩
  have HBad := Lib.hid (fun (h0 : r ≠ 0) => show joinR A B M U = ([], r) by unfold joinR; rw [hr, if_pos h0])
  have HGood := Lib.hid (fun (h0 : r = 0) => show joinR A B M U = if 0 < M.length then ([], 7) else capR U by unfold joinR; rw [hr, if_neg (by simpa using h0)])
  rw [hr] at HT
  have HZ := Lib.hid hr
  replace HT := Lib.hid HT
  replace HF := Lib.hid HF
  replace HC := Lib.hid (HC ∘ hr.trans)
  replace HS := Lib.hid (HS ∘ hr.trans)
  clear hr
  by_cases h0 : r = 0
  · subst h0
    rw [HGood.out rfl]
    have HC2 := Lib.hid (HC.out rfl)
    have HS3 := Lib.hid (HS.out rfl)
    clear HBad HGood HZ HC HS
    by_cases hM : 0 < M.length
    · rw [if_pos hM]
      generalize M.length = m at *
      have hm' : (m : Int) > 0 := by omega
      clear hM HC2 HS3
      go_enter Try.func34, Try.ntmps34
      go_wp2_with fail
      refine (HT.out).mono ?_
      rintro e w1 ⟨he, hb⟩
      subst he
      have T1 := Lib.hid hb
      clear hb
      go_wp2_with (go_at_call 56; refine (among_call _ _ _ _).mono ?_; rintro e w2 ⟨rfl, rfl⟩)
      refine (HF.out w1 T1.out).mono ?_
      rintro e w2 ⟨a, cap, b, off, he, hb, hv⟩
      subst he
      clear T1
      have T1 := Lib.hid hb
      clear hb hv
      go_wp2
      go_ret2
      exact ⟨_, rfl, T1.out, v_nil _⟩
    · rw [if_neg hM]
      have hM0 : M.length = 0 := by omega
      rw [hM0] at HF
      clear hM hM0
      go_enter Try.func34, Try.ntmps34
      go_wp2_with fail
      refine (HT.out).mono ?_
      rintro e w1 ⟨he, hb⟩
      subst he
      have T1 := Lib.hid hb
      clear hb
      go_wp2_with (go_at_call 56; refine (among_call _ _ _ _).mono ?_; rintro e w2 ⟨rfl, rfl⟩)
      refine (HF.out w1 T1.out).mono ?_
      rintro e w2 ⟨a, cap, b, off, he, hb, hv⟩
      subst he
      clear T1
      have T1 := Lib.hid hb
      clear hb hv
      go_wp2_with fail
      refine (HC2.out _ T1.out _ (by first | rfl | simp)).mono ?_
      rintro e w2 ⟨a, n, cap, b, off, he, hn, hb, hv⟩
      subst he
      have HS2 := Lib.hid (HS3.out a n cap b off hn w2 hb hv)
      clear hn hb hv
      go_wp2_with fail
      refine (HS2.out).mono ?_
      rintro e w3 ⟨a', cap', b', off', he, hb, hv⟩
      subst he
      have T3 := Lib.hid hb
      have V3 := Lib.hid hv
      clear hb hv
      generalize hm : U.length = m at *
      have HM := Lib.hid hm
      clear hm
      have HL := Lib.hid (limited_in a' m cap' w3)
      by_cases h8 : 8 < m
      · rw [if_pos h8] at HL
        have H8 := Lib.hid h8
        clear h8
        go_wp2_with (go_at_call 45; refine (HL.out).mono ?_; rintro e w4 ⟨rfl, rfl⟩)
        go_ret2
        exact cap_bad (by rw [HM.out]; exact H8.out) T3.out
      · rw [if_neg h8] at HL
        have H8 := Lib.hid h8
        clear h8
        go_wp2_with (go_at_call 45; refine (HL.out).mono ?_; rintro e w4 ⟨rfl, rfl⟩)
        go_ret2
        exact cap_good (by rw [HM.out]; exact H8.out) T3.out ⟨_, _, _, _, _, rfl, V3.out⟩
  · have hb0 : (r != 0) = true := by simpa using h0
    have H0 := Lib.hid h0
    clear h0
    go_enter Try.func34, Try.ntmps34
    go_wp2_with fail
    refine (HT.out).mono ?_
    rintro e w1 ⟨he, hb⟩
    subst he
    have T1 := Lib.hid hb
    clear hb
    go_wp2
    go_ret2
    have hE := HBad.out H0.out
    exact ⟨.slice none 0 0, by rw [hE]; rfl, T1.out, by rw [hE]; exact v_nil _⟩
end Go.Proofs.Ytjggeombkbianaa.Sx
