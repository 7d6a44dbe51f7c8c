/-
  PartitionOrders answers true: finer partitions are told by meets and by joins, and counted.
-/
import Derived.Test.YtlacohjecehpiaaEvPaLattice
namespace Go.Proofs.Ytlacohjecehpiaa.Part
open Go Go.RowKit Go.Part Go.Law Go.Maps

set_option maxHeartbeats 4000000 in
set_option maxRecDepth 100000 in
theorem orders_walk {w : World} {v u : Value} {zs ys : List Int} (h0 : IntsAt w .i64 v zs) (h1 : IntsAt w .i64 u ys) :
    Calls Try.prog 9 #[v, u] w fun e w' => e = .returned (.bool true) ∧ Below w.heap.size w w' := by
  have T0 := Lib.hid (below_one w (.cells #[v, u] 22))
  obtain ⟨b, hb⟩ : ∃ b, [zs, ys].any (worse zs) = !b := ⟨![zs, ys].any (worse zs), by simp⟩
  have HF := Lib.hid (good_any w.heap.size 2 2 _ _ _ (rows2 h0 h1) (by omega) (by omega) b hb)
  have HH0 := Lib.hid h0
  have HH1 := Lib.hid h1
  obtain ⟨x0, cap0, rfl, p0, q0, r0⟩ := h0
  obtain ⟨x1, cap1, rfl, p1, q1, r1⟩ := h1
  clear p0 q0 r0 p1 q1 r1
  cases b with
  | false =>
    clear hb
    go_enter Try.func9, Try.ntmps9
    go_wp2_with (first | (go_at_call 34; ((with_reducible refine (HF.out).mono ?_); rintro e w1 ⟨rfl, hb1⟩; have T1 := Lib.hid (pow_below T0.out hb1); clear hb1)) | (go_at_call 13; ((with_reducible refine (Ev.awake _).mono ?_); rintro e w' ⟨rfl, hw⟩)))
    go_ret
    exact ⟨rfl, pow_below T1.out hw⟩
  | true =>
    obtain ⟨hs, ha, hb', hl⟩ := good_two hb
    obtain ⟨n, hn⟩ : ∃ n, zs.length = n := ⟨_, rfl⟩
    obtain ⟨f, hf⟩ : ∃ f, decide (cut zs ys = zs) = f := ⟨_, rfl⟩
    have E1 : Hid (decide (glue n zs ys = ys) = f) := Lib.hid (by rw [← hf]; exact Bool.eq_iff_iff.2 (by simp only [decide_eq_true_eq]; exact (cut_glue_iff ha hb' hn (by omega)).symm))
    have K1 : Hid (∀ w1, Below w.heap.size w w1 → Calls Try.prog 35 #[.slice x0 zs.length cap0, .slice x1 ys.length cap1] w1 (TwoPost (cut zs ys) (glue n zs ys) w1)) := Lib.hid (fun w1 h1 => by
      have := two_wf (ints_below HH0.out h1) (ints_below HH1.out h1) ha hb' hl hs
      rw [show glue zs.length zs ys = glue n zs ys by rw [hn]] at this
      exact this)
    have K2 : Hid (∀ w1, Below w.heap.size w w1 → Calls Try.prog 26 #[.slice x0 zs.length cap0, .slice x1 ys.length cap1] w1 (BoolPost f 0 w1)) := Lib.hid (fun w1 h1 => by
      have := finer_wf (ints_below HH0.out h1) (ints_below HH1.out h1) ha hb' hl hs
      rwa [hf] at this)
    have K3 : Hid (∀ w1 m, Below w.heap.size w w1 → IntsAt w1 .i64 m (cut zs ys) → Calls Try.prog 26 #[m, .slice x0 zs.length cap0] w1 (BoolPost true 0 w1)) := Lib.hid (fun w1 m h1 h2 => by
      have := finer_wf h2 (ints_below HH0.out h1) (cut_wf _ _) ha (cut_len _ _) (by rw [cut_len]; exact hs)
      rwa [show decide (cut (cut zs ys) zs = cut zs ys) = true by simpa using cut_cut] at this)
    have K4 : Hid (∀ w1 m, Below w.heap.size w w1 → IntsAt w1 .i64 m (glue n zs ys) → Calls Try.prog 26 #[.slice x1 ys.length cap1, m] w1 (BoolPost true 0 w1)) := Lib.hid (fun w1 m h1 h2 => by
      have := finer_wf (ints_below HH1.out h1) h2 hb' (glue_wf _ _ _) (by rw [glue_len]; omega) (by omega)
      rwa [show decide (cut ys (glue n zs ys) = ys) = true by simpa using cut_glue_right hb' (by omega)] at this)
    have K5 : Hid (∀ w1 m, Below w.heap.size w w1 → IntsAt w1 .i64 m (cut zs ys) → Calls Try.prog 36 #[m, .slice x0 zs.length cap0] w1 (Quiet (.bool f) w1)) := Lib.hid (fun w1 m h1 h2 => by
      have := equal_any h2 (ints_below HH0.out h1)
      rwa [hf] at this)
    have K6 : Hid (∀ w1 m, Below w.heap.size w w1 → IntsAt w1 .i64 m (glue n zs ys) → Calls Try.prog 36 #[m, .slice x1 ys.length cap1] w1 (Quiet (.bool f) w1)) := Lib.hid (fun w1 m h1 h2 => by
      have := equal_any h2 (ints_below HH1.out h1)
      rwa [E1.out] at this)
    have K7 : Hid (∀ w1 m l, IntsAt w1 .i64 m l → wf l → l.length ≤ 30 → Calls Try.prog 16 #[m] w1 fun e w' => e = .returned (.tuple #[.int .i64 (cN l), .int .i64 0]) ∧ w1 = w') := Lib.hid (fun w1 m l h1 h2 h3 => by
      have := pcount_any h1
      rwa [cntOf, code_of (by omega) h2, if_pos rfl] at this)
    have K8 : Hid (∀ w1, Below w.heap.size w w1 → Calls Try.prog 16 #[.slice x0 zs.length cap0] w1 fun e w' => e = .returned (.tuple #[.int .i64 (cN zs), .int .i64 0]) ∧ w1 = w') := Lib.hid (fun w1 h1 => K7.out w1 _ _ (ints_below HH0.out h1) ha hs)
    have K9 : Hid (∀ w1 m, IntsAt w1 .i64 m (cut zs ys) → Calls Try.prog 16 #[m] w1 fun e w' => e = .returned (.tuple #[.int .i64 (cN (cut zs ys)), .int .i64 0]) ∧ w1 = w') := Lib.hid (fun w1 m h1 => K7.out w1 _ _ h1 (cut_wf _ _) (by rw [cut_len]; exact hs))
    have K10 : Hid (∀ w1 m, IntsAt w1 .i64 m (glue n zs ys) → Calls Try.prog 16 #[m] w1 fun e w' => e = .returned (.tuple #[.int .i64 (cN (glue n zs ys)), .int .i64 0]) ∧ w1 = w') := Lib.hid (fun w1 m h1 => K7.out w1 _ _ h1 (glue_wf _ _ _) (by rw [glue_len]; omega))
    have c1 := cN_cut zs ys
    have c2 := cN_glue (a := zs) (b := ys) hn
    have d1 : decide ((cN (glue n zs ys) : Int) ≤ (cN zs : Int)) = true := by simp; omega
    have d2 : decide ((cN zs : Int) ≤ (cN (cut zs ys) : Int)) = true := by simp; omega
    have d3 : decide (cN (glue n zs ys) ≤ cN zs) = true := by simpa using c2
    have d4 : decide (cN zs ≤ cN (cut zs ys)) = true := by simpa using c1
    have ef : (f != f) = false := by simp
    clear hb hs ha hb' hl hn hf E1 K7
    generalize cN (glue n zs ys) = g1 at *
    generalize cN (cut zs ys) = g2 at *
    generalize cN zs = g3 at *
    go_enter Try.func9, Try.ntmps9
    go_wp2_with (first
      | (go_at_call 13; ((with_reducible refine (Ev.awake _).mono ?_); rintro e w' ⟨rfl, hw⟩))
      | (go_at_call 16; ((with_reducible refine (K10.out _ _ (ints_drewN Ib5.out _)).mono ?_); rintro e w' ⟨rfl, rfl⟩))
      | (go_at_call 16; ((with_reducible refine (K9.out _ _ (ints_drewN Ia5.out _)).mono ?_); rintro e w' ⟨rfl, rfl⟩))
      | (go_at_call 16; ((with_reducible refine (K8.out _ (below_drewN T5.out _)).mono ?_); rintro e w' ⟨rfl, rfl⟩))
      | (go_at_call 36; ((with_reducible refine (K6.out _ _ (below_drewN T5.out _) (ints_drewN Ib5.out _)).mono ?_); rintro e w' ⟨m2, rfl, rfl⟩))
      | (go_at_call 36; ((with_reducible refine (K5.out _ _ T5.out Ia5.out).mono ?_); rintro e w' ⟨m1, rfl, rfl⟩))
      | (go_at_call 26; ((with_reducible refine (K4.out _ _ T4.out Ib4.out).mono ?_); rintro e w5 ⟨rfl, hb⟩; have T5 := Lib.hid (pow_below T4.out hb); have Ia5 := Lib.hid (ints_below Ia4.out hb); have Ib5 := Lib.hid (ints_below Ib4.out hb); clear hb))
      | (go_at_call 26; ((with_reducible refine (K3.out _ _ T3.out Ia3.out).mono ?_); rintro e w4 ⟨rfl, hb⟩; have T4 := Lib.hid (pow_below T3.out hb); have Ia4 := Lib.hid (ints_below Ia3.out hb); have Ib4 := Lib.hid (ints_below Ib3.out hb); clear hb))
      | (go_at_call 26; ((with_reducible refine (K2.out _ T2.out).mono ?_); rintro e w3 ⟨rfl, hb⟩; have T3 := Lib.hid (pow_below T2.out hb); have Ia3 := Lib.hid (ints_below Ia2.out hb); have Ib3 := Lib.hid (ints_below Ib2.out hb); clear hb))
      | (go_at_call 35; ((with_reducible refine (K1.out _ T1.out).mono ?_); rintro e w2 ⟨v2, u2, rfl, hb, hi, hj⟩; have T2 := Lib.hid (pow_below T1.out hb); have Ia2 := Lib.hid hi; have Ib2 := Lib.hid hj; clear hb hi hj))
      | (go_at_call 34; ((with_reducible refine (HF.out).mono ?_); rintro e w1 ⟨rfl, hb⟩; have T1 := Lib.hid (pow_below T0.out hb); clear hb)))
    go_ret
    exact ⟨rfl, pow_below (below_drewN T5.out _) hw⟩
end Go.Proofs.Ytlacohjecehpiaa.Part