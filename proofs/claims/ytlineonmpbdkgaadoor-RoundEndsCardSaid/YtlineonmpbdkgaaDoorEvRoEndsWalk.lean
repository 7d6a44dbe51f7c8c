/-
  RoundEnds answers true.
-/
import Derived.Test.YtlineonmpbdkgaaDoorEvRoProduct
namespace Go.Proofs.YtlineonmpbdkgaaDoor.Word
open Go Go.RowKit Go.Graph Go.Law Go.Ev
open Go.Proofs.YtlineonmpbdkgaaDoor.Graph
open Go.Proofs.YtlineonmpbdkgaaDoor.Ev (tabs Len awake)
open Go.Proofs.YtlineonmpbdkgaaDoor.Col (ret_int ret_bool)

theorem rfew_any (a : Option Addr) (len cap : Nat) (w : World) : Calls Tryd.prog 47 #[.slice a len cap] w fun e w' => e = .returned (.bool (decide (len ≤ 12))) ∧ w = w' := by
  by_cases h : len ≤ 12
  · have h1 : (len : Int) ≤ 12 := by omega
    have H := Lib.hid (decide_eq_true h)
    clear h
    go_enter Tryd.func47, Tryd.ntmps47
    go_wp2
    go_ret
    exact ⟨ret_bool H.out.symm, rfl⟩
  · have h1 : ¬ (len : Int) ≤ 12 := by omega
    have H := Lib.hid (decide_eq_false h)
    clear h
    go_enter Tryd.func47, Tryd.ntmps47
    go_wp2
    go_ret
    exact ⟨ret_bool H.out.symm, rfl⟩
theorem few_yes (a : Option Addr) (len cap : Nat) (h : len ≤ 12) (w : World) : Calls Tryd.prog 16 #[.slice a len cap] w fun e w' => e = .returned (.bool true) ∧ w = w' := by
  have HF := Lib.hid (rfew_any a len cap)
  rw [decide_eq_true h] at HF
  clear h
  go_enter Tryd.func16, Tryd.ntmps16
  go_wp2_with (go_at_call 47; refine (HF.out _).mono ?_; rintro e w' ⟨rfl, rfl⟩)
  go_ret
  exact ⟨rfl, rfl⟩
theorem few_long (a : Option Addr) (len cap : Nat) (h : ¬ len ≤ 12) (d : Bool) (hd : decide (1024 < len ∧ len ≤ 1026) = d) (w : World) : Calls Tryd.prog 16 #[.slice a len cap] w fun e w' => e = .returned (.bool d) ∧ w = w' := by
  have HF := Lib.hid (rfew_any a len cap)
  rw [decide_eq_false h] at HF
  clear h
  by_cases h1 : 1024 < len
  · have e1 : (len : Int) > 1024 := by omega
    by_cases h2 : len ≤ 1026
    · have e2 : (len : Int) ≤ 1026 := by omega
      obtain rfl : true = d := by rw [← hd]; simp; omega
      clear hd h1 h2
      go_enter Tryd.func16, Tryd.ntmps16
      go_wp2_with (go_at_call 47; refine (HF.out _).mono ?_; rintro e w' ⟨rfl, rfl⟩)
      go_ret
      exact ⟨rfl, rfl⟩
    · have e2 : ¬ (len : Int) ≤ 1026 := by omega
      obtain rfl : false = d := by rw [← hd]; simp; omega
      have H2 := Lib.hid (decide_eq_false (show ¬ ((len : Int) ≤ 1026) from e2))
      clear hd h1 h2
      go_enter Tryd.func16, Tryd.ntmps16
      go_wp2_with (go_at_call 47; refine (HF.out _).mono ?_; rintro e w' ⟨rfl, rfl⟩)
      go_ret
      exact ⟨ret_bool H2.out, rfl⟩
  · have e1 : ¬ (len : Int) > 1024 := by omega
    obtain rfl : false = d := by rw [← hd]; simp; omega
    clear hd h1
    go_enter Tryd.func16, Tryd.ntmps16
    go_wp2_with (go_at_call 47; refine (HF.out _).mono ?_; rintro e w' ⟨rfl, rfl⟩)
    go_ret
    exact ⟨rfl, rfl⟩
theorem few_any (a : Option Addr) (len cap : Nat) : ∃ d : Bool, ∀ w : World, Calls Tryd.prog 16 #[.slice a len cap] w fun e w' => e = .returned (.bool d) ∧ w = w' := by
  by_cases h : len ≤ 12
  · exact ⟨true, few_yes a len cap h⟩
  · exact ⟨_, few_long a len cap h _ rfl⟩
theorem prodR_pair (n : Int) (l : List Rd) : ∃ c0 c1 c2 c3 c4 c5 c : Int, prodR n l = pairV c0 c1 c2 c3 c4 c5 c := by
  unfold prodR
  split
  · exact ⟨_, _, _, _, _, _, _, rfl⟩
  · exact ⟨_, _, _, _, _, _, _, rfl⟩
set_option maxRecDepth 100000 in
set_option maxHeartbeats 4000000 in
theorem roundEnds_walk {w : World} {e0 e1 : TypeId} (hH : Held w (tabs e0 e1)) (hM : Len w) (n : Int) {v : Value} {l : List Rd} (h : WordAt w v l) :
    Calls Tryd.prog 5 #[.int .i64 n, v] w fun e w' => e = .returned (.bool true) ∧ Below w.heap.size w w' := by
  have HH := Lib.hid hH
  have HM := Lib.hid hM
  clear hH hM
  have H17 := Lib.hid (fun (w1 : World) (hb : Below w.heap.size w w1) => faulty_any n (h.below hb) (word_any n (h.below hb)))
  have H18 := Lib.hid (fun (w1 : World) (hb : Below w.heap.size w w1) => rfaulty_any n (h.below hb) (rword_any n (h.below hb)))
  have H19 := Lib.hid (fun (w1 : World) (hb : Below w.heap.size w w1) => obliged_any n (h.below hb))
  have H20 := Lib.hid (fun (w1 : World) (hb : Below w.heap.size w w1) => robliged_any n (h.below hb))
  have H21 := Lib.hid (fun (w1 : World) (hb : Below w.heap.size w w1) => product_any n (h.below hb))
  have H22 := Lib.hid (fun (w1 : World) (hb : Below w.heap.size w w1) => rproduct_any n (h.below hb))
  have H23 := Lib.hid (fun (w1 : World) (hb : Below w.heap.size w w1) => word_any n (h.below hb))
  have H24 := Lib.hid (fun (w1 : World) (hb : Below w.heap.size w w1) => rword_any n (h.below hb))
  obtain ⟨a, cap, b, off, rfl, _, _, _, _⟩ := h
  obtain ⟨c0, c1, c2, c3, c4, c5, c, hp⟩ := prodR_pair n l
  rw [hp] at H21 H22
  unfold pairV at H21 H22
  clear hp
  generalize faultyR n l = fa at *
  obtain ⟨f0, f1⟩ := fa
  generalize obligedR n l = oa at *
  obtain ⟨o0, o1⟩ := oa
  generalize wordR n l = q at *
  simp only at H17 H18 H19 H20
  generalize l.length = len at *
  obtain ⟨d, hf⟩ := few_any a len cap
  have HF := Lib.hid hf
  clear hf
  have T0 := Lib.hid (Below.refl w.heap.size w)
  cases d with
  | false =>
    go_enter Tryd.func5, Tryd.ntmps5
    go_wp2_with first
      | (go_at_call 16; refine (HF.out _).mono ?_; rintro e w' ⟨rfl, rfl⟩)
      | (go_at_call 13; refine (still_true HH.out HM.out T0.out).mono ?_; rintro e w1 ⟨rfl, hb1⟩; have T1 := Lib.hid (T0.out.trans (bel_le hb1 T0.out.size)))
    go_ret
    exact ⟨rfl, T1.out⟩
  | true =>
    have he9 := arr_known (r0 := c1) (r1 := c2) (r2 := c3) (r3 := c4) (r4 := c5) (s0 := c1) (s1 := c2) (s2 := c3) (s3 := c4) (s4 := c5) (d := true) (by simp) 9997
    have he8 := arr_known (r0 := c1) (r1 := c2) (r2 := c3) (r3 := c4) (r4 := c5) (s0 := c1) (s1 := c2) (s2 := c3) (s3 := c4) (s4 := c5) (d := true) (by simp) 9996
    have he7 := arr_known (r0 := c1) (r1 := c2) (r2 := c3) (r3 := c4) (r4 := c5) (s0 := c1) (s1 := c2) (s2 := c3) (s3 := c4) (s4 := c5) (d := true) (by simp) 9995
    go_enter Tryd.func5, Tryd.ntmps5
    go_wp2_with first
      | (go_at_call 16; refine (HF.out _).mono ?_; rintro e w' ⟨rfl, rfl⟩)
      | (go_at_call 17; refine (H17.out _ T0.out).mono ?_; rintro e w1 ⟨rfl, hb17⟩; have T1 := Lib.hid (T0.out.trans (bel_le hb17 T0.out.size)); clear hb17)
      | (go_at_call 18; refine (H18.out _ T1.out).mono ?_; rintro e w2 ⟨rfl, hb18⟩; have T2 := Lib.hid (T1.out.trans (bel_le hb18 T1.out.size)); clear hb18)
      | (go_at_call 19; refine (H19.out _ T2.out).mono ?_; rintro e w3 ⟨rfl, hb19⟩; have T3 := Lib.hid (T2.out.trans (bel_le hb19 T2.out.size)); clear hb19)
      | (go_at_call 20; refine (H20.out _ T3.out).mono ?_; rintro e w4 ⟨rfl, hb20⟩; have T4 := Lib.hid (T3.out.trans (bel_le hb20 T3.out.size)); clear hb20)
      | (go_at_call 21; refine (H21.out _ T4.out).mono ?_; rintro e w5 ⟨rfl, hb21⟩; have T5a := Lib.hid (T4.out.trans (bel_le hb21 T4.out.size)); have T5 := Lib.hid (T5a.out.alloc T5a.out.size (.cells #[.int .i64 c0, .int .i64 c1, .int .i64 c2, .int .i64 c3, .int .i64 c4, .int .i64 c5] 24)); have RT5 := Lib.hid (row_new w5 c0 c1 c2 c3 c4 c5); clear hb21)
      | (go_at_call 22; refine (H22.out _ T5.out).mono ?_; rintro e w6 ⟨rfl, hb22⟩; have T6a := Lib.hid (T5.out.trans (bel_le hb22 T5.out.size)); have T6 := Lib.hid (T6a.out.alloc T6a.out.size (.cells #[.int .i64 c0, .int .i64 c1, .int .i64 c2, .int .i64 c3, .int .i64 c4, .int .i64 c5] 24)); have RT6 := Lib.hid (row_new w6 c0 c1 c2 c3 c4 c5); have RA := Lib.hid (row_alloc (row_below RT5.out hb22) (.cells #[.int .i64 c0, .int .i64 c1, .int .i64 c2, .int .i64 c3, .int .i64 c4, .int .i64 c5] 24)); clear hb22)
      | (go_at_call 23; refine (H23.out _ T6.out).mono ?_; rintro e w7 ⟨rfl, hb23⟩; have T7 := Lib.hid (T6.out.trans (bel_le hb23 T6.out.size)); have RB := Lib.hid (row_below RA.out hb23); have RC := Lib.hid (row_below RT6.out hb23); clear hb23)
      | (go_at_call 24; refine (H24.out _ T7.out).mono ?_; rintro e w8 ⟨rfl, hb24⟩; have T8 := Lib.hid (T7.out.trans (bel_le hb24 T7.out.size)); have RD := Lib.hid (row_below RB.out hb24); have RE := Lib.hid (row_below RC.out hb24); obtain ⟨p0, p1, p2, p3, p4, p5⟩ := RD.out; obtain ⟨u0, u1, u2, u3, u4, u5⟩ := RE.out; clear hb24)
      | (go_at_call 13; refine (still_true HH.out HM.out T8.out).mono ?_; rintro e w9 ⟨rfl, hb9⟩; have T9 := Lib.hid (T8.out.trans (bel_le hb9 T8.out.size)); clear hb9)
    go_ret
    exact ⟨rfl, T9.out⟩
end Go.Proofs.YtlineonmpbdkgaaDoor.Word
