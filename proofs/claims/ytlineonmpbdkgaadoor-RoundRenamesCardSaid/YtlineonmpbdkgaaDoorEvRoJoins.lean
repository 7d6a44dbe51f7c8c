/-
  Parts of a word: their products, who is faulty at their ends.
-/
import Derived.Test.YtlineonmpbdkgaaDoorEvRoProduct
namespace Go.Proofs.YtlineonmpbdkgaaDoor.Word
open Go Go.RowKit Go.Graph Go.Law Go.Ev
open Go.Proofs.YtlineonmpbdkgaaDoor.Graph
open Go.Proofs.YtlineonmpbdkgaaDoor.Ev (tabs Len awake)
open Go.Proofs.YtlineonmpbdkgaaDoor.Col (ret_int ret_bool)

theorem rfew_any (a : Option Addr) (len cap : Nat) (w : World) : Calls Tryd.prog 47 #[.slice a len cap] w fun e w' => e = .returned (.bool (decide (len ≤ 12))) ∧ w = w' := by
  by_cases h : len ≤ 12
  · have h1 : (len : Int) ≤ 12 := by omega
    have H := Lib.hid (decide_eq_true h)
    clear h
    go_enter Tryd.func47, Tryd.ntmps47
    go_wp2
    go_ret
    exact ⟨ret_bool H.out.symm, rfl⟩
  · have h1 : ¬ (len : Int) ≤ 12 := by omega
    have H := Lib.hid (decide_eq_false h)
    clear h
    go_enter Tryd.func47, Tryd.ntmps47
    go_wp2
    go_ret
    exact ⟨ret_bool H.out.symm, rfl⟩
theorem few_yes (a : Option Addr) (len cap : Nat) (h : len ≤ 12) (w : World) : Calls Tryd.prog 16 #[.slice a len cap] w fun e w' => e = .returned (.bool true) ∧ w = w' := by
  have HF := Lib.hid (rfew_any a len cap)
  rw [decide_eq_true h] at HF
  clear h
  go_enter Tryd.func16, Tryd.ntmps16
  go_wp2_with (go_at_call 47; refine (HF.out _).mono ?_; rintro e w' ⟨rfl, rfl⟩)
  go_ret
  exact ⟨rfl, rfl⟩
theorem few_long (a : Option Addr) (len cap : Nat) (h : ¬ len ≤ 12) (d : Bool) (hd : decide (1024 < len ∧ len ≤ 1026) = d) (w : World) : Calls Tryd.prog 16 #[.slice a len cap] w fun e w' => e = .returned (.bool d) ∧ w = w' := by
  have HF := Lib.hid (rfew_any a len cap)
  rw [decide_eq_false h] at HF
  clear h
  by_cases h1 : 1024 < len
  · have e1 : (len : Int) > 1024 := by omega
    by_cases h2 : len ≤ 1026
    · have e2 : (len : Int) ≤ 1026 := by omega
      obtain rfl : true = d := by rw [← hd]; simp; omega
      clear hd h1 h2
      go_enter Tryd.func16, Tryd.ntmps16
      go_wp2_with (go_at_call 47; refine (HF.out _).mono ?_; rintro e w' ⟨rfl, rfl⟩)
      go_ret
      exact ⟨rfl, rfl⟩
    · have e2 : ¬ (len : Int) ≤ 1026 := by omega
      obtain rfl : false = d := by rw [← hd]; simp; omega
      have H2 := Lib.hid (decide_eq_false (show ¬ ((len : Int) ≤ 1026) from e2))
      clear hd h1 h2
      go_enter Tryd.func16, Tryd.ntmps16
      go_wp2_with (go_at_call 47; refine (HF.out _).mono ?_; rintro e w' ⟨rfl, rfl⟩)
      go_ret
      exact ⟨ret_bool H2.out, rfl⟩
  · have e1 : ¬ (len : Int) > 1024 := by omega
    obtain rfl : false = d := by rw [← hd]; simp; omega
    clear hd h1
    go_enter Tryd.func16, Tryd.ntmps16
    go_wp2_with (go_at_call 47; refine (HF.out _).mono ?_; rintro e w' ⟨rfl, rfl⟩)
    go_ret
    exact ⟨rfl, rfl⟩
theorem few_any (a : Option Addr) (len cap : Nat) : ∃ d : Bool, ∀ w : World, Calls Tryd.prog 16 #[.slice a len cap] w fun e w' => e = .returned (.bool d) ∧ w = w' := by
  by_cases h : len ≤ 12
  · exact ⟨true, few_yes a len cap h⟩
  · exact ⟨_, few_long a len cap h _ rfl⟩
theorem prodR_pair (n : Int) (l : List Rd) : ∃ c0 c1 c2 c3 c4 c5 c : Int, prodR n l = pairV c0 c1 c2 c3 c4 c5 c := by
  unfold prodR
  split
  · exact ⟨_, _, _, _, _, _, _, rfl⟩
  · exact ⟨_, _, _, _, _, _, _, rfl⟩
set_option maxRecDepth 100000 in
set_option maxHeartbeats 4000000 in
theorem roundEnds_walk {w : World} {e0 e1 : TypeId} (hH : Held w (tabs e0 e1)) (hM : Len w) (n : Int) {v : Value} {l : List Rd} (h : WordAt w v l) :
    Calls Tryd.prog 5 #[.int .i64 n, v] w fun e w' => e = .returned (.bool true) ∧ Below w.heap.size w w' := by
  have HH := Lib.hid hH
  have HM := Lib.hid hM
  clear hH hM
  have H17 := Lib.hid (fun (w1 : World) (hb : Below w.heap.size w w1) => faulty_any n (h.below hb) (word_any n (h.below hb)))
  have H18 := Lib.hid (fun (w1 : World) (hb : Below w.heap.size w w1) => rfaulty_any n (h.below hb) (rword_any n (h.below hb)))
  have H19 := Lib.hid (fun (w1 : World) (hb : Below w.heap.size w w1) => obliged_any n (h.below hb))
  have H20 := Lib.hid (fun (w1 : World) (hb : Below w.heap.size w w1) => robliged_any n (h.below hb))
  have H21 := Lib.hid (fun (w1 : World) (hb : Below w.heap.size w w1) => product_any n (h.below hb))
  have H22 := Lib.hid (fun (w1 : World) (hb : Below w.heap.size w w1) => rproduct_any n (h.below hb))
  have H23 := Lib.hid (fun (w1 : World) (hb : Below w.heap.size w w1) => word_any n (h.below hb))
  have H24 := Lib.hid (fun (w1 : World) (hb : Below w.heap.size w w1) => rword_any n (h.below hb))
  obtain ⟨a, cap, b, off, rfl, _, _, _, _⟩ := h
  obtain ⟨c0, c1, c2, c3, c4, c5, c, hp⟩ := prodR_pair n l
  rw [hp] at H21 H22
  unfold pairV at H21 H22
  clear hp
  generalize faultyR n l = fa at *
  obtain ⟨f0, f1⟩ := fa
  generalize obligedR n l = oa at *
  obtain ⟨o0, o1⟩ := oa
  generalize wordR n l = q at *
  simp only at H17 H18 H19 H20
  generalize l.length = len at *
  obtain ⟨d, hf⟩ := few_any a len cap
  have HF := Lib.hid hf
  clear hf
  have T0 := Lib.hid (Below.refl w.heap.size w)
  cases d with
  | false =>
    go_enter Tryd.func5, Tryd.ntmps5
    go_wp2_with first
      | (go_at_call 16; refine (HF.out _).mono ?_; rintro e w' ⟨rfl, rfl⟩)
      | (go_at_call 13; refine (still_true HH.out HM.out T0.out).mono ?_; rintro e w1 ⟨rfl, hb1⟩; have T1 := Lib.hid (T0.out.trans (bel_le hb1 T0.out.size)))
    go_ret
    exact ⟨rfl, T1.out⟩
  | true =>
    have he9 := arr_known (r0 := c1) (r1 := c2) (r2 := c3) (r3 := c4) (r4 := c5) (s0 := c1) (s1 := c2) (s2 := c3) (s3 := c4) (s4 := c5) (d := true) (by simp) 9997
    have he8 := arr_known (r0 := c1) (r1 := c2) (r2 := c3) (r3 := c4) (r4 := c5) (s0 := c1) (s1 := c2) (s2 := c3) (s3 := c4) (s4 := c5) (d := true) (by simp) 9996
    have he7 := arr_known (r0 := c1) (r1 := c2) (r2 := c3) (r3 := c4) (r4 := c5) (s0 := c1) (s1 := c2) (s2 := c3) (s3 := c4) (s4 := c5) (d := true) (by simp) 9995
    go_enter Tryd.func5, Tryd.ntmps5
    go_wp2_with first
      | (go_at_call 16; refine (HF.out _).mono ?_; rintro e w' ⟨rfl, rfl⟩)
      | (go_at_call 17; refine (H17.out _ T0.out).mono ?_; rintro e w1 ⟨rfl, hb17⟩; have T1 := Lib.hid (T0.out.trans (bel_le hb17 T0.out.size)); clear hb17)
      | (go_at_call 18; refine (H18.out _ T1.out).mono ?_; rintro e w2 ⟨rfl, hb18⟩; have T2 := Lib.hid (T1.out.trans (bel_le hb18 T1.out.size)); clear hb18)
      | (go_at_call 19; refine (H19.out _ T2.out).mono ?_; rintro e w3 ⟨rfl, hb19⟩; have T3 := Lib.hid (T2.out.trans (bel_le hb19 T2.out.size)); clear hb19)
      | (go_at_call 20; refine (H20.out _ T3.out).mono ?_; rintro e w4 ⟨rfl, hb20⟩; have T4 := Lib.hid (T3.out.trans (bel_le hb20 T3.out.size)); clear hb20)
      | (go_at_call 21; refine (H21.out _ T4.out).mono ?_; rintro e w5 ⟨rfl, hb21⟩; have T5a := Lib.hid (T4.out.trans (bel_le hb21 T4.out.size)); have T5 := Lib.hid (T5a.out.alloc T5a.out.size (.cells #[.int .i64 c0, .int .i64 c1, .int .i64 c2, .int .i64 c3, .int .i64 c4, .int .i64 c5] 24)); have RT5 := Lib.hid (row_new w5 c0 c1 c2 c3 c4 c5); clear hb21)
      | (go_at_call 22; refine (H22.out _ T5.out).mono ?_; rintro e w6 ⟨rfl, hb22⟩; have T6a := Lib.hid (T5.out.trans (bel_le hb22 T5.out.size)); have T6 := Lib.hid (T6a.out.alloc T6a.out.size (.cells #[.int .i64 c0, .int .i64 c1, .int .i64 c2, .int .i64 c3, .int .i64 c4, .int .i64 c5] 24)); have RT6 := Lib.hid (row_new w6 c0 c1 c2 c3 c4 c5); have RA := Lib.hid (row_alloc (row_below RT5.out hb22) (.cells #[.int .i64 c0, .int .i64 c1, .int .i64 c2, .int .i64 c3, .int .i64 c4, .int .i64 c5] 24)); clear hb22)
      | (go_at_call 23; refine (H23.out _ T6.out).mono ?_; rintro e w7 ⟨rfl, hb23⟩; have T7 := Lib.hid (T6.out.trans (bel_le hb23 T6.out.size)); have RB := Lib.hid (row_below RA.out hb23); have RC := Lib.hid (row_below RT6.out hb23); clear hb23)
      | (go_at_call 24; refine (H24.out _ T7.out).mono ?_; rintro e w8 ⟨rfl, hb24⟩; have T8 := Lib.hid (T7.out.trans (bel_le hb24 T7.out.size)); have RD := Lib.hid (row_below RB.out hb24); have RE := Lib.hid (row_below RC.out hb24); obtain ⟨p0, p1, p2, p3, p4, p5⟩ := RD.out; obtain ⟨u0, u1, u2, u3, u4, u5⟩ := RE.out; clear hb24)
      | (go_at_call 13; refine (still_true HH.out HM.out T8.out).mono ?_; rintro e w9 ⟨rfl, hb9⟩; have T9 := Lib.hid (T8.out.trans (bel_le hb9 T8.out.size)); clear hb9)
    go_ret
    exact ⟨rfl, T9.out⟩
end Go.Proofs.YtlineonmpbdkgaaDoor.Word
namespace Go.Proofs.YtlineonmpbdkgaaDoor.Word
open Go Go.RowKit Go.Graph Go.Law
open Go.Proofs.YtlineonmpbdkgaaDoor.Graph

theorem rd_take {l : List Rd} {K j : Nat} (h : j < K) : rd (l.take K) j = rd l j := by
  unfold rd
  simp only [List.getD_eq_getElem?_getD, List.getElem?_take, if_pos h]
theorem rd_drop {l : List Rd} {K j : Nat} : rd (l.drop K) j = rd l (K + j) := by
  unfold rd
  simp only [List.getD_eq_getElem?_getD, List.getElem?_drop]
theorem before_take {l : List Rd} {K : Nat} : ∀ {j : Nat}, j ≤ K → before (l.take K) j = before l j
  | 0, _ => rfl
  | j + 1, h => by show (rd (l.take K) j).f = (rd l j).f; rw [rd_take (by omega)]
theorem before_drop {l : List Rd} {K j : Nat} : before (l.drop K) (j + 1) = before l (K + j + 1) := by
  show (rd (l.drop K) j).f = (rd l (K + j)).f; rw [rd_drop]
/-- A word without a fault, round by round. -/
theorem word_iff {n : Int} {l : List Rd} : wordR n l = 0 ↔ (1 ≤ n ∧ n ≤ 5) ∧ l.length ≤ 1024 ∧ ∀ j, j < l.length → err n (before l j, rd l j) = 0 := by
  constructor
  · intro h
    obtain ⟨k, g, rfl, h1, h5, _, _⟩ := word_zero h
    exact ⟨by omega, word_len h, fun j hj => word_err h hj⟩
  · rintro ⟨⟨h1, h5⟩, hl, he⟩
    unfold wordR
    rw [if_neg (by omega), if_neg (by omega)]
    have key : ∀ k, k ≤ l.length → scanP n (seqTo l k) = 0 := by
      intro k
      induction k with
      | zero => intro _; rfl
      | succ k ih =>
        intro hk
        rw [seqTo_succ, scanP_succ, ih (by omega), if_neg (by simp)]
        exact he k (by omega)
    exact key _ (Nat.le_refl _)
theorem zero_andNot : ∀ g : Nat, g < 32 → (bits .andNot .i64 0 (g : Int) != 0) = false := by decide +kernel
theorem err_start {n : Int} {y : Int} {x : Rd} (h : err n (y, x) = 0) : err n (0, x) = 0 := by
  obtain ⟨h1, h2⟩ := err_zero h
  simp only at h1 h2
  obtain ⟨q, hq, hq32⟩ := rcheck_f h1
  unfold err
  simp only
  rw [if_neg (by simpa using h1), if_neg (by simpa using h2), hq, zero_andNot q hq32]
  rfl
theorem word_take {n : Int} {l : List Rd} (h : wordR n l = 0) {K : Nat} (hK : K ≤ l.length) : wordR n (l.take K) = 0 := by
  obtain ⟨hn, hl, he⟩ := word_iff.1 h
  have e : (l.take K).length = K := by rw [List.length_take]; omega
  exact word_iff.2 ⟨hn, by omega, fun j hj => by rw [before_take (by omega), rd_take (by omega)]; exact he j (by omega)⟩
theorem word_drop {n : Int} {l : List Rd} (h : wordR n l = 0) {K : Nat} (hK : K ≤ l.length) : wordR n (l.drop K) = 0 := by
  obtain ⟨hn, hl, he⟩ := word_iff.1 h
  have e : (l.drop K).length = l.length - K := List.length_drop
  refine word_iff.2 ⟨hn, by omega, fun j hj => ?_⟩
  rw [rd_drop]
  cases j with
  | zero => exact err_start (he K (by omega))
  | succ j => rw [before_drop]; exact he (K + (j + 1)) (by omega)
theorem wprod_take {k : Nat} {l : List Rd} {K : Nat} : ∀ {j : Nat}, j ≤ K → wprod k (l.take K) j = wprod k l j
  | 0, _ => rfl
  | j + 1, h => by unfold wprod; rw [wprod_take (by omega), rd_take (by omega)]
theorem wprod_drop {k : Nat} {l : List Rd} {K : Nat} (hw : WF k (wprod k l K)) : ∀ m : Nat, prod k (wprod k l K) (wprod k (l.drop K) m) = wprod k l (K + m)
  | 0 => prod_sil hw
  | m + 1 => by
    have ih := wprod_drop hw m
    show prod k (wprod k l K) (prod k (wprod k (l.drop K) m) (rowsR (rd (l.drop K) m))) = prod k (wprod k l (K + m)) (rowsR (rd l (K + m)))
    rw [← prod_assoc, ih, rd_drop]

/-! Who is faulty: never less than before. -/
theorem andNot_or : ∀ a : Nat, a < 32 → ∀ b : Nat, b < 32 → bits .andNot .i64 (a : Int) (b : Int) = 0 → a ||| b = b := by decide +kernel
theorem or_andNot : ∀ a : Nat, a < 32 → ∀ b : Nat, b < 32 → a ||| b = b → bits .andNot .i64 (a : Int) (b : Int) = 0 := by decide +kernel
theorem before_nat {k : Nat} {l : List Rd} (h : wordR k l = 0) : ∀ j, j ≤ l.length → ∃ g : Nat, before l j = g ∧ g < 2 ^ k
  | 0, _ => ⟨0, rfl, Nat.pow_pos (by omega)⟩
  | j + 1, hj => by
    have e := err_zero (word_err h (show j < l.length by omega))
    simp only at e
    obtain ⟨q, hq, _⟩ := rcheck_f e.1
    have hp := rcheck_pow e.1
    rw [e.2, hq, Int.toNat_natCast] at hp
    exact ⟨q, hq, by exact_mod_cast hp⟩
theorem before_step {k : Nat} {l : List Rd} (h : wordR k l = 0) {j : Nat} (hj : j < l.length) : bits .andNot .i64 (before l j) (before l (j + 1)) = 0 := by
  have he := word_err h hj
  have h2 := err_zero he
  unfold err at he
  rw [if_neg (by simpa using h2.1), if_neg (by simpa using h2.2)] at he
  split at he
  · exact absurd he (by decide)
  · rename_i h3
    show bits .andNot .i64 (before l j) (rd l j).f = 0
    simpa using h3
theorem before_grows {k : Nat} (h5 : k ≤ 5) {l : List Rd} (h : wordR k l = 0) {K : Nat} : ∀ m, K + m ≤ l.length → bits .andNot .i64 (before l K) (before l (K + m)) = 0 := by
  have h32 : 2 ^ k ≤ 32 := Nat.le_trans (Nat.pow_le_pow_right (by omega) h5) (by decide)
  intro m
  induction m with
  | zero =>
    intro hm
    obtain ⟨g, hg, hl⟩ := before_nat h K (by omega)
    rw [Nat.add_zero, hg]
    exact or_andNot g (by omega) g (by omega) (Nat.or_self g)
  | succ m ih =>
    intro hm
    have i1 := ih (by omega)
    have i2 := before_step h (show K + m < l.length by omega)
    obtain ⟨g0, e0, l0⟩ := before_nat h K (by omega)
    obtain ⟨g1, e1, l1⟩ := before_nat h (K + m) (by omega)
    obtain ⟨g2, e2, l2⟩ := before_nat h (K + (m + 1)) (by omega)
    rw [show K + m + 1 = K + (m + 1) by omega] at i2
    rw [e0, e1] at i1
    rw [e1, e2] at i2
    rw [e0, e2]
    have o1 := andNot_or g0 (by omega) g1 (by omega) i1
    have o2 := andNot_or g1 (by omega) g2 (by omega) i2
    refine or_andNot g0 (by omega) g2 (by omega) ?_
    rw [← o2, ← Nat.or_assoc, o1]
def obl (n a b : Nat) : Bool := !(bits .andNot .i64 (a : Int) (b : Int) == 0) || ((bits .andNot .i64 (((2 ^ n - 1 : Nat) : Int) - b) (((2 ^ n - 1 : Nat) : Int) - a) == 0) && ((bits .and .i64 (((2 ^ n - 1 : Nat) : Int) - b) (b : Int) == 0) && (bits .or .i64 (((2 ^ n - 1 : Nat) : Int) - b) (b : Int) == ((2 ^ n - 1 : Nat) : Int))))
theorem obl_all : ∀ n, n < 6 → ∀ a : Nat, a < 2 ^ n → ∀ b : Nat, b < 2 ^ n → obl n a b = true := by decide +kernel
theorem oblige_facts {n : Nat} (hn : n < 6) {a : Nat} (ha : a < 2 ^ n) {b : Nat} (hb : b < 2 ^ n) (h : bits .andNot .i64 (a : Int) (b : Int) = 0) :
    bits .andNot .i64 (((2 ^ n - 1 : Nat) : Int) - b) (((2 ^ n - 1 : Nat) : Int) - a) = 0 ∧ bits .and .i64 (((2 ^ n - 1 : Nat) : Int) - b) (b : Int) = 0 ∧ bits .or .i64 (((2 ^ n - 1 : Nat) : Int) - b) (b : Int) = ((2 ^ n - 1 : Nat) : Int) := by
  have := obl_all n hn a ha b hb
  unfold obl at this
  rw [h] at this
  simpa using this

/-! Parts of a slice. -/
theorem add_zero (a : Addr) : a.add 0 = a := by cases a; simp [Addr.add]
set_option maxRecDepth 100000 in
theorem slice_to (a : Option Addr) (len cap K : Nat) (hK : K ≤ len) (hc : len ≤ cap) (w : World) : (Instr.sliceAt 39 (.slice a len cap) none (some (.int .i64 (K : Int))) none).run Tryd.prog w = .ok (.slice a K cap) w := by
  rw [run_sliceAt_slice w 39 _ _ _ _ (by kernel_rfl), run_slice_h w 39 a len cap (by kernel_rfl) .i64 K (by omega) (by omega)]
  have hs : (sizeOf (Tryd.prog.elem 39)).run Tryd.prog w = .ok 7 w := by kernel_rfl
  rw [hs]
  show Result.ok (sliced a 0 (K : Int).toNat cap 7) w = _
  unfold sliced
  rw [Int.toNat_natCast, Nat.zero_mul, Nat.sub_zero, Nat.sub_zero]
  congr 2
  split
  · rfl
  · cases a with
    | none => rfl
    | some a => simp [add_zero]
set_option maxRecDepth 100000 in
theorem slice_from (a : Option Addr) (len cap K : Nat) (hK : K ≤ len) (w : World) : (Instr.sliceAt 39 (.slice a len cap) (some (.int .i64 (K : Int))) none none).run Tryd.prog w = .ok (.slice (if cap = K then a else a.map (·.add (K * 7))) (len - K) (cap - K)) w := by
  rw [run_sliceAt_slice w 39 _ _ _ _ (by kernel_rfl), run_slice_l w 39 a len cap (by kernel_rfl) .i64 K (by omega) (by omega)]
  have hs : (sizeOf (Tryd.prog.elem 39)).run Tryd.prog w = .ok 7 w := by kernel_rfl
  rw [hs]
  show Result.ok (sliced a (K : Int).toNat len cap 7) w = _
  unfold sliced
  rw [Int.toNat_natCast]
/-- A word that can be read, with room behind its length or not. -/
structure WordIn (W : World) (a : Option Addr) (len cap b off : Nat) (l : List Rd) : Prop where
  size : l.length = len
  head : 0 < len → a = some ⟨b, off, none⟩
  old : 0 < len → b < W.heap.size
  cells : RdAt W b off len l
  room : len ≤ cap
  top : cap ≤ maxLen
theorem WordIn.at {W : World} {a : Option Addr} {len cap b off : Nat} {l : List Rd} (h : WordIn W a len cap b off l) : WordAt W (.slice a len cap) l :=
  ⟨a, cap, b, off, by rw [h.size], by rw [h.size]; exact h.head, by rw [h.size]; exact h.old, by rw [h.size]; exact h.cells, by rw [h.size]; exact Nat.le_trans h.room h.top⟩
theorem WordIn.take {W : World} {a : Option Addr} {len cap b off : Nat} {l : List Rd} (h : WordIn W a len cap b off l) {K : Nat} (hK : K ≤ len) : WordIn W a K cap b off (l.take K) :=
  ⟨by rw [List.length_take, h.size]; omega, fun h0 => h.head (by omega), fun h0 => h.old (by omega), fun k hk i hi => by rw [rd_take hk]; exact h.cells k (by omega) i hi, Nat.le_trans hK h.room, h.top⟩
theorem WordIn.drop {W : World} {a : Option Addr} {len cap b off : Nat} {l : List Rd} (h : WordIn W a len cap b off l) {K : Nat} (hK : K ≤ len) : WordIn W (if cap = K then a else a.map (·.add (K * 7))) (len - K) (cap - K) b (off + K * 7) (l.drop K) :=
  ⟨by rw [List.length_drop, h.size], fun h0 => by have := h.room; rw [if_neg (by omega), h.head (by omega), Option.map_some, Go.WideShapes.add_plain], fun h0 => h.old (by omega),
   fun k hk i hi => by rw [rd_drop, show off + K * 7 + k * 7 + i = off + (K + k) * 7 + i by omega]; exact h.cells (K + k) (by omega) i hi, by have := h.room; omega, by have := h.top; omega⟩
end Go.Proofs.YtlineonmpbdkgaaDoor.Word
