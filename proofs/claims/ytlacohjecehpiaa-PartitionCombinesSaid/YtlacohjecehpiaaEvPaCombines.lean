/-
  PartitionCombines answers true: finer, meets and joins are those of the reference.
-/
import Derived.Test.YtlacohjecehpiaaEvPaFiner
import Derived.Test.YtlacohjecehpiaaEvPaRefines
namespace Go.Proofs.Ytlacohjecehpiaa.Part
open Go Go.RowKit Go.Part Go.Law Go.Maps
set_option maxHeartbeats 2000000 in
set_option maxRecDepth 100000 in
theorem combines_walk {w : World} {v u : Value} {zs ys : List Int} (h : IntsAt w .i64 v zs) (h' : IntsAt w .i64 u ys) :
    Calls Try.prog 5 #[v, u] w fun e w' => e = .returned (.bool true) ∧ Below w.heap.size w w' := by
  have T0 := Lib.hid (below_one w (.cells #[v, u] 22))
  obtain ⟨b, hb⟩ : ∃ b, [zs, ys].any bad = !b := ⟨![zs, ys].any bad, by simp⟩
  have HF := Lib.hid (few_any w.heap.size 2 2 _ _ _ (rows2 h h') (by omega) b hb)
  have HH := Lib.hid h
  have HH' := Lib.hid h'
  have HC1 := Lib.hid (finer_any (ints_below h T0.out) (ints_below h' T0.out))
  obtain ⟨x, cap, rfl, h1, h2, h3⟩ := h
  obtain ⟨x', cap', rfl, h1', h2', h3'⟩ := h'
  clear h3 h3' h1 h1' h2 h2' hb
  have e1 : (both zs ys == both zs ys) = true := by simp
  have e2 : (finB zs ys == finB zs ys) = true := by simp
  cases b with
  | false =>
    go_enter Try.func5, Try.ntmps5
    go_wp2_with (first | (go_at_call 12; ((with_reducible refine (HF.out).mono ?_); rintro e w' ⟨rfl, rfl⟩)) | (go_at_call 13; ((with_reducible refine (Ev.awake _).mono ?_); rintro e w' ⟨rfl, hw⟩)))
    go_ret
    exact ⟨rfl, T0.out.trans (bel_le hw T0.out.size)⟩
  | true =>
    go_enter Try.func5, Try.ntmps5
    go_wp2_with (first
      | (go_at_call 13; ((with_reducible refine (Ev.awake _).mono ?_); rintro e w' ⟨rfl, hw⟩))
      | (go_at_call 25; ((with_reducible refine (same_true (ints_drewN I3d.out m1) (ints_drewN I4c.out m1)).mono ?_); rintro e w' ⟨m2, rfl, rfl⟩))
      | (go_at_call 25; ((with_reducible refine (same_true I1f.out I2e.out).mono ?_); rintro e w' ⟨m1, rfl, rfl⟩))
      | (go_at_call 31; ((with_reducible refine (rjoin_any (ints_below HH.out T5.out) (ints_below HH'.out T5.out)).mono ?_); rintro e w6 ⟨v6, rfl, hb, hi⟩; have T6 := Lib.hid (T5.out.trans (bel_le hb T5.out.size)); have I1f := Lib.hid (ints_below I1e.out hb); have I2e := Lib.hid (ints_below I2d.out hb); have I3d := Lib.hid (ints_below I3c.out hb); have I4c := Lib.hid hi; clear hb hi))
      | (go_at_call 30; ((with_reducible refine (join_any (ints_below HH.out T4.out) (ints_below HH'.out T4.out)).mono ?_); rintro e w5 ⟨v5, rfl, hb, hi⟩; have T5 := Lib.hid (T4.out.trans (bel_le hb T4.out.size)); have I1e := Lib.hid (ints_below I1d.out hb); have I2d := Lib.hid (ints_below I2c.out hb); have I3c := Lib.hid hi; clear hb hi))
      | (go_at_call 29; ((with_reducible refine (rmeetf_any (ints_below HH.out T3.out) (ints_below HH'.out T3.out)).mono ?_); rintro e w4 ⟨v4, rfl, hb, hi⟩; have T4 := Lib.hid (T3.out.trans (bel_le hb T3.out.size)); have I1d := Lib.hid (ints_below I1c.out hb); have I2c := Lib.hid hi; clear hb hi))
      | (go_at_call 28; ((with_reducible refine (meetf_any (ints_below HH.out T2.out) (ints_below HH'.out T2.out)).mono ?_); rintro e w3 ⟨v3, rfl, hb, hi⟩; have T3 := Lib.hid (T2.out.trans (bel_le hb T2.out.size)); have I1c := Lib.hid hi; clear hb hi))
      | (go_at_call 27; ((with_reducible refine (rfiner_any (ints_below HH.out T1.out) (ints_below HH'.out T1.out)).mono ?_); rintro e w2 ⟨rfl, hb⟩; have T2 := Lib.hid (T1.out.trans (bel_le hb T1.out.size)); clear hb))
      | (go_at_call 26; ((with_reducible refine (HC1.out).mono ?_); rintro e w1 ⟨rfl, hb⟩; have T1 := Lib.hid (T0.out.trans (bel_le hb T0.out.size)); clear hb))
      | (go_at_call 12; ((with_reducible refine (HF.out).mono ?_); rintro e w' ⟨rfl, rfl⟩)))
    go_ret
    exact ⟨rfl, T6.out.trans ((below_drewN (Below.refl _ _) _).trans (bel_le hw (by simpa using T6.out.size)))⟩
end Go.Proofs.Ytlacohjecehpiaa.Part
