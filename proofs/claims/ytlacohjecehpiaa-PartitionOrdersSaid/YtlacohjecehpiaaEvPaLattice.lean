/-
  PartitionLattice and PartitionGroups answer true: meets and joins as a lattice.
-/
import Derived.Test.YtlacohjecehpiaaEvPaGood
namespace Go.Proofs.Ytlacohjecehpiaa.Part
open Go Go.RowKit Go.Part Go.Law Go.Maps
theorem pow_below {w0 w w' : World} (h : Below w0.heap.size w0 w) (hb : Below w.heap.size w w') : Below w0.heap.size w0 w' := h.trans (bel_le hb h.size)

set_option maxHeartbeats 4000000 in
set_option maxRecDepth 100000 in
theorem lattice_walk {w : World} {v u : Value} {zs ys : List Int} (h0 : IntsAt w .i64 v zs) (h1 : IntsAt w .i64 u ys) :
    Calls Try.prog 7 #[v, u] w fun e w' => e = .returned (.bool true) ∧ Below w.heap.size w w' := by
  have T0 := Lib.hid (below_one w (.cells #[v, u] 22))
  obtain ⟨b, hb⟩ : ∃ b, [zs, ys].any (worse zs) = !b := ⟨![zs, ys].any (worse zs), by simp⟩
  have HF := Lib.hid (good_any w.heap.size 2 2 _ _ _ (rows2 h0 h1) (by omega) (by omega) b hb)
  have HH0 := Lib.hid h0
  have HH1 := Lib.hid h1
  obtain ⟨x0, cap0, rfl, p0, q0, r0⟩ := h0
  obtain ⟨x1, cap1, rfl, p1, q1, r1⟩ := h1
  clear p0 q0 r0 p1 q1 r1
  cases b with
  | false =>
    clear hb
    go_enter Try.func7, Try.ntmps7
    go_wp2_with (first | (go_at_call 34; ((with_reducible refine (HF.out).mono ?_); rintro e w1 ⟨rfl, hb1⟩; have T1 := Lib.hid (pow_below T0.out hb1); clear hb1)) | (go_at_call 13; ((with_reducible refine (Ev.awake _).mono ?_); rintro e w' ⟨rfl, hw⟩)))
    go_ret
    exact ⟨rfl, pow_below T1.out hw⟩
  | true =>
    obtain ⟨hs, ha, hb', hl⟩ := good_two hb
    obtain ⟨n, hn⟩ : ∃ n, zs.length = n := ⟨_, rfl⟩
    have E1 := Lib.hid (cut_comm (a := zs) (b := ys) hl)
    have E2 := Lib.hid (glue_comm n zs ys)
    have E3 := Lib.hid (cut_self ha)
    have E4 := Lib.hid (glue_self ha hn)
    have E5 := Lib.hid (glue_cut (b := ys) ha hn)
    have E6 := Lib.hid (cut_glue (b := ys) ha hn)
    have K1 : Hid (∀ w1, Below w.heap.size w w1 → Calls Try.prog 35 #[.slice x0 zs.length cap0, .slice x1 ys.length cap1] w1 (TwoPost (cut zs ys) (glue n zs ys) w1)) := Lib.hid (fun w1 h1 => by
      have := two_wf (ints_below HH0.out h1) (ints_below HH1.out h1) ha hb' hl hs
      rw [show glue zs.length zs ys = glue n zs ys by rw [hn]] at this
      exact this)
    have K2 : Hid (∀ w1, Below w.heap.size w w1 → Calls Try.prog 35 #[.slice x1 ys.length cap1, .slice x0 zs.length cap0] w1 (TwoPost (cut zs ys) (glue n zs ys) w1)) := Lib.hid (fun w1 h1 => by
      have := two_wf (ints_below HH1.out h1) (ints_below HH0.out h1) hb' ha hl.symm (by omega)
      rw [show cut ys zs = cut zs ys from E1.out, show glue ys.length ys zs = glue n zs ys by rw [show ys.length = n by omega]; exact E2.out] at this
      exact this)
    have K3 : Hid (∀ w1, Below w.heap.size w w1 → Calls Try.prog 35 #[.slice x0 zs.length cap0, .slice x0 zs.length cap0] w1 (TwoPost zs zs w1)) := Lib.hid (fun w1 h1 => by
      have := two_wf (ints_below HH0.out h1) (ints_below HH0.out h1) ha ha rfl hs
      rw [show cut zs zs = zs from E3.out, show glue zs.length zs zs = zs by rw [hn]; exact E4.out] at this
      exact this)
    have K4 : Hid (∀ w1 m, Below w.heap.size w w1 → IntsAt w1 .i64 m (cut zs ys) → Calls Try.prog 30 #[.slice x0 zs.length cap0, m] w1 (PairPost zs 0 w1)) := Lib.hid (fun w1 m h1 hm => by
      have := join_wf (ints_below HH0.out h1) hm ha (cut_wf _ _) (cut_len _ _).symm hs
      rw [show glue zs.length zs (cut zs ys) = zs by rw [hn]; exact E5.out] at this
      exact this)
    have K5 : Hid (∀ w1 m, Below w.heap.size w w1 → IntsAt w1 .i64 m (glue n zs ys) → Calls Try.prog 28 #[.slice x0 zs.length cap0, m] w1 (PairPost zs 0 w1)) := Lib.hid (fun w1 m h1 hm => by
      have := meet_wf (ints_below HH0.out h1) hm ha (glue_wf _ _ _) (by rw [glue_len]; exact hn) hs
      rwa [E6.out] at this)
    clear hb hs ha hb' hl hn E1 E2 E3 E4 E5 E6
    go_enter Try.func7, Try.ntmps7
    go_wp2_with (first
      | (go_at_call 13; ((with_reducible refine (Ev.awake _).mono ?_); rintro e w' ⟨rfl, hw⟩))
      | (go_at_call 36; ((with_reducible refine (equal_true (ints_drewN Ih6.out _) (ints_drewN (ints_below HH0.out T6.out) _)).mono ?_); rintro e w' ⟨m6, rfl, rfl⟩))
      | (go_at_call 36; ((with_reducible refine (equal_true Ig6.out (ints_below HH0.out T6.out)).mono ?_); rintro e w' ⟨m5, rfl, rfl⟩))
      | (go_at_call 28; ((with_reducible refine (K5.out _ _ T5.out Ib5.out).mono ?_); rintro e w6 ⟨v6, rfl, hb, hi⟩; have T6 := Lib.hid (pow_below T5.out hb); have Ia6 := Lib.hid (ints_below Ia5.out hb); have Ib6 := Lib.hid (ints_below Ib5.out hb); have Ic6 := Lib.hid (ints_below Ic5.out hb); have Id6 := Lib.hid (ints_below Id5.out hb); have Ie6 := Lib.hid (ints_below Ie5.out hb); have If6 := Lib.hid (ints_below If5.out hb); have Ig6 := Lib.hid (ints_below Ig5.out hb); have Ih6 := Lib.hid hi; clear hb hi))
      | (go_at_call 30; ((with_reducible refine (K4.out _ _ (below_drewN T4.out _) (ints_drewN Ia4.out _)).mono ?_); rintro e w5 ⟨v5, rfl, hb, hi⟩; have T5 := Lib.hid (pow_below (below_drewN T4.out _) hb); have Ia5 := Lib.hid (ints_below (ints_drewN Ia4.out _) hb); have Ib5 := Lib.hid (ints_below (ints_drewN Ib4.out _) hb); have Ic5 := Lib.hid (ints_below (ints_drewN Ic4.out _) hb); have Id5 := Lib.hid (ints_below (ints_drewN Id4.out _) hb); have Ie5 := Lib.hid (ints_below (ints_drewN Ie4.out _) hb); have If5 := Lib.hid (ints_below (ints_drewN If4.out _) hb); have Ig5 := Lib.hid hi; clear hb hi))
      | (go_at_call 36; ((with_reducible refine (equal_true (ints_drewN If4.out _) (ints_drewN (ints_below HH0.out T4.out) _)).mono ?_); rintro e w' ⟨m4, rfl, rfl⟩))
      | (go_at_call 36; ((with_reducible refine (equal_true (ints_drewN Ie4.out _) (ints_drewN (ints_below HH0.out T4.out) _)).mono ?_); rintro e w' ⟨m3, rfl, rfl⟩))
      | (go_at_call 36; ((with_reducible refine (equal_true (ints_drewN Ib4.out _) (ints_drewN Id4.out _)).mono ?_); rintro e w' ⟨m2, rfl, rfl⟩))
      | (go_at_call 36; ((with_reducible refine (equal_true Ia4.out Ic4.out).mono ?_); rintro e w' ⟨m1, rfl, rfl⟩))
      | (go_at_call 35; ((with_reducible refine (K3.out _ T3.out).mono ?_); rintro e w4 ⟨v4, u4, rfl, hb, hi, hj⟩; have T4 := Lib.hid (pow_below T3.out hb); have Ia4 := Lib.hid (ints_below Ia3.out hb); have Ib4 := Lib.hid (ints_below Ib3.out hb); have Ic4 := Lib.hid (ints_below Ic3.out hb); have Id4 := Lib.hid (ints_below Id3.out hb); have Ie4 := Lib.hid hi; have If4 := Lib.hid hj; clear hb hi hj))
      | (go_at_call 35; ((with_reducible refine (K2.out _ T2.out).mono ?_); rintro e w3 ⟨v3, u3, rfl, hb, hi, hj⟩; have T3 := Lib.hid (pow_below T2.out hb); have Ia3 := Lib.hid (ints_below Ia2.out hb); have Ib3 := Lib.hid (ints_below Ib2.out hb); have Ic3 := Lib.hid hi; have Id3 := Lib.hid hj; clear hb hi hj))
      | (go_at_call 35; ((with_reducible refine (K1.out _ T1.out).mono ?_); rintro e w2 ⟨v2, u2, rfl, hb, hi, hj⟩; have T2 := Lib.hid (pow_below T1.out hb); have Ia2 := Lib.hid hi; have Ib2 := Lib.hid hj; clear hb hi hj))
      | (go_at_call 34; ((with_reducible refine (HF.out).mono ?_); rintro e w1 ⟨rfl, hb⟩; have T1 := Lib.hid (pow_below T0.out hb); clear hb)))
    go_ret
    exact ⟨rfl, pow_below (below_drewN T6.out _) hw⟩

set_option maxHeartbeats 4000000 in
set_option maxRecDepth 100000 in
theorem groups_walk {w : World} {v u t : Value} {zs ys xs : List Int} (h0 : IntsAt w .i64 v zs) (h1 : IntsAt w .i64 u ys) (h2 : IntsAt w .i64 t xs) :
    Calls Try.prog 8 #[v, u, t] w fun e w' => e = .returned (.bool true) ∧ Below w.heap.size w w' := by
  have T0 := Lib.hid (below_one w (.cells #[v, u, t] 22))
  obtain ⟨b, hb⟩ : ∃ b, [zs, ys, xs].any (worse zs) = !b := ⟨![zs, ys, xs].any (worse zs), by simp⟩
  have HF := Lib.hid (good_any w.heap.size 3 3 _ _ _ (rows3 h0 h1 h2) (by omega) (by omega) b hb)
  have HH0 := Lib.hid h0
  have HH1 := Lib.hid h1
  have HH2 := Lib.hid h2
  obtain ⟨x0, cap0, rfl, p0, q0, r0⟩ := h0
  obtain ⟨x1, cap1, rfl, p1, q1, r1⟩ := h1
  obtain ⟨x2, cap2, rfl, p2, q2, r2⟩ := h2
  clear p0 q0 r0 p1 q1 r1 p2 q2 r2
  cases b with
  | false =>
    clear hb
    go_enter Try.func8, Try.ntmps8
    go_wp2_with (first | (go_at_call 34; ((with_reducible refine (HF.out).mono ?_); rintro e w1 ⟨rfl, hb1⟩; have T1 := Lib.hid (pow_below T0.out hb1); clear hb1)) | (go_at_call 13; ((with_reducible refine (Ev.awake _).mono ?_); rintro e w' ⟨rfl, hw⟩)))
    go_ret
    exact ⟨rfl, pow_below T1.out hw⟩
  | true =>
    obtain ⟨hs, ha, hb', hc, hl, hm⟩ := good_three hb
    obtain ⟨n, hn⟩ : ∃ n, zs.length = n := ⟨_, rfl⟩
    have E1 := Lib.hid (cut_assoc (a := zs) (b := ys) (c := xs) hl)
    have E2 := Lib.hid (glue_assoc (n := n) (a := zs) (b := ys) (c := xs))
    have K1 : Hid (∀ w1, Below w.heap.size w w1 → Calls Try.prog 35 #[.slice x0 zs.length cap0, .slice x1 ys.length cap1] w1 (TwoPost (cut zs ys) (glue n zs ys) w1)) := Lib.hid (fun w1 h1 => by
      have := two_wf (ints_below HH0.out h1) (ints_below HH1.out h1) ha hb' hl hs
      rw [show glue zs.length zs ys = glue n zs ys by rw [hn]] at this
      exact this)
    have K2 : Hid (∀ w1, Below w.heap.size w w1 → Calls Try.prog 35 #[.slice x1 ys.length cap1, .slice x2 xs.length cap2] w1 (TwoPost (cut ys xs) (glue n ys xs) w1)) := Lib.hid (fun w1 h1 => by
      have := two_wf (ints_below HH1.out h1) (ints_below HH2.out h1) hb' hc (by omega) (by omega)
      rw [show glue ys.length ys xs = glue n ys xs by rw [show ys.length = n by omega]] at this
      exact this)
    have K3 : Hid (∀ w1 m, Below w.heap.size w w1 → IntsAt w1 .i64 m (cut zs ys) → Calls Try.prog 28 #[m, .slice x2 xs.length cap2] w1 (PairPost (cut (cut zs ys) xs) 0 w1)) := Lib.hid (fun w1 m h1 h2 => meet_wf h2 (ints_below HH2.out h1) (cut_wf _ _) hc (by rw [cut_len]; exact hm) (by rw [cut_len]; exact hs))
    have K4 : Hid (∀ w1 m, Below w.heap.size w w1 → IntsAt w1 .i64 m (cut ys xs) → Calls Try.prog 28 #[.slice x0 zs.length cap0, m] w1 (PairPost (cut (cut zs ys) xs) 0 w1)) := Lib.hid (fun w1 m h1 h2 => by
      have := meet_wf (ints_below HH0.out h1) h2 ha (cut_wf _ _) (by rw [cut_len]; exact hl) hs
      rwa [← E1.out] at this)
    have K5 : Hid (∀ w1 m, Below w.heap.size w w1 → IntsAt w1 .i64 m (glue n zs ys) → Calls Try.prog 30 #[m, .slice x2 xs.length cap2] w1 (PairPost (glue n (glue n zs ys) xs) 0 w1)) := Lib.hid (fun w1 m h1 h2 => by
      have := join_wf h2 (ints_below HH2.out h1) (glue_wf _ _ _) hc (by rw [glue_len]; omega) (by rw [glue_len]; omega)
      rw [show glue (glue n zs ys).length (glue n zs ys) xs = glue n (glue n zs ys) xs by rw [glue_len]] at this
      exact this)
    have K6 : Hid (∀ w1 m, Below w.heap.size w w1 → IntsAt w1 .i64 m (glue n ys xs) → Calls Try.prog 30 #[.slice x0 zs.length cap0, m] w1 (PairPost (glue n (glue n zs ys) xs) 0 w1)) := Lib.hid (fun w1 m h1 h2 => by
      have := join_wf (ints_below HH0.out h1) h2 ha (glue_wf _ _ _) (by rw [glue_len]; exact hn) hs
      rw [show glue zs.length zs (glue n ys xs) = glue n (glue n zs ys) xs by rw [hn]; exact E2.out.symm] at this
      exact this)
    clear hb hs ha hb' hc hl hm hn E1 E2
    go_enter Try.func8, Try.ntmps8
    go_wp2_with (first
      | (go_at_call 13; ((with_reducible refine (Ev.awake _).mono ?_); rintro e w' ⟨rfl, hw⟩))
      | (go_at_call 36; ((with_reducible refine (equal_true (ints_drewN Ig7.out _) (ints_drewN Ih7.out _)).mono ?_); rintro e w' ⟨m2, rfl, rfl⟩))
      | (go_at_call 36; ((with_reducible refine (equal_true Ie7.out If7.out).mono ?_); rintro e w' ⟨m1, rfl, rfl⟩))
      | (go_at_call 30; ((with_reducible refine (K6.out _ _ T6.out Id6.out).mono ?_); rintro e w7 ⟨v7, rfl, hb, hi⟩; have T7 := Lib.hid (pow_below T6.out hb); have Ia7 := Lib.hid (ints_below Ia6.out hb); have Ib7 := Lib.hid (ints_below Ib6.out hb); have Ic7 := Lib.hid (ints_below Ic6.out hb); have Id7 := Lib.hid (ints_below Id6.out hb); have Ie7 := Lib.hid (ints_below Ie6.out hb); have If7 := Lib.hid (ints_below If6.out hb); have Ig7 := Lib.hid (ints_below Ig6.out hb); have Ih7 := Lib.hid hi; clear hb hi))
      | (go_at_call 30; ((with_reducible refine (K5.out _ _ T5.out Ib5.out).mono ?_); rintro e w6 ⟨v6, rfl, hb, hi⟩; have T6 := Lib.hid (pow_below T5.out hb); have Ia6 := Lib.hid (ints_below Ia5.out hb); have Ib6 := Lib.hid (ints_below Ib5.out hb); have Ic6 := Lib.hid (ints_below Ic5.out hb); have Id6 := Lib.hid (ints_below Id5.out hb); have Ie6 := Lib.hid (ints_below Ie5.out hb); have If6 := Lib.hid (ints_below If5.out hb); have Ig6 := Lib.hid hi; clear hb hi))
      | (go_at_call 28; ((with_reducible refine (K4.out _ _ T4.out Ic4.out).mono ?_); rintro e w5 ⟨v5, rfl, hb, hi⟩; have T5 := Lib.hid (pow_below T4.out hb); have Ia5 := Lib.hid (ints_below Ia4.out hb); have Ib5 := Lib.hid (ints_below Ib4.out hb); have Ic5 := Lib.hid (ints_below Ic4.out hb); have Id5 := Lib.hid (ints_below Id4.out hb); have Ie5 := Lib.hid (ints_below Ie4.out hb); have If5 := Lib.hid hi; clear hb hi))
      | (go_at_call 28; ((with_reducible refine (K3.out _ _ T3.out Ia3.out).mono ?_); rintro e w4 ⟨v4, rfl, hb, hi⟩; have T4 := Lib.hid (pow_below T3.out hb); have Ia4 := Lib.hid (ints_below Ia3.out hb); have Ib4 := Lib.hid (ints_below Ib3.out hb); have Ic4 := Lib.hid (ints_below Ic3.out hb); have Id4 := Lib.hid (ints_below Id3.out hb); have Ie4 := Lib.hid hi; clear hb hi))
      | (go_at_call 35; ((with_reducible refine (K2.out _ T2.out).mono ?_); rintro e w3 ⟨v3, u3, rfl, hb, hi, hj⟩; have T3 := Lib.hid (pow_below T2.out hb); have Ia3 := Lib.hid (ints_below Ia2.out hb); have Ib3 := Lib.hid (ints_below Ib2.out hb); have Ic3 := Lib.hid hi; have Id3 := Lib.hid hj; clear hb hi hj))
      | (go_at_call 35; ((with_reducible refine (K1.out _ T1.out).mono ?_); rintro e w2 ⟨v2, u2, rfl, hb, hi, hj⟩; have T2 := Lib.hid (pow_below T1.out hb); have Ia2 := Lib.hid hi; have Ib2 := Lib.hid hj; clear hb hi hj))
      | (go_at_call 34; ((with_reducible refine (HF.out).mono ?_); rintro e w1 ⟨rfl, hb⟩; have T1 := Lib.hid (pow_below T0.out hb); clear hb)))
    go_ret
    exact ⟨rfl, pow_below (below_drewN T7.out _) hw⟩
end Go.Proofs.Ytlacohjecehpiaa.Part