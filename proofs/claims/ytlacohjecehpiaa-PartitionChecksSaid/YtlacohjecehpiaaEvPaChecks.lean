/-
  PartitionChecks answers true: checks, classes and counts are those of the reference.
-/
import Derived.Test.YtlacohjecehpiaaEvPaRClasses
namespace Go.Proofs.Ytlacohjecehpiaa.Part
open Go Go.RowKit Go.Part Go.Law Go.Maps
set_option maxHeartbeats 2000000 in
set_option maxRecDepth 100000 in
theorem checks_walk {w : World} {v : Value} {zs : List Int} (h : IntsAt w .i64 v zs) :
    Calls Try.prog 3 #[v] w fun e w' => e = .returned (.bool true) ∧ Below w.heap.size w w' := by
  have T0 := Lib.hid (below_one w (.cells #[v] 22))
  obtain ⟨b, hb⟩ : ∃ b, [zs].any bad = !b := ⟨![zs].any bad, by simp⟩
  have HF := Lib.hid (few_any w.heap.size 1 1 _ _ _ (rows1 h) (by omega) b hb)
  have HH := Lib.hid h
  have HC1 := Lib.hid (classes_any (ints_below h T0.out))
  obtain ⟨x, cap, rfl, h1, h2, h3⟩ := h
  clear h3 h1 h2 hb
  have e1 : (code zs == code zs) = true := by simp
  have e2 : (cntOf zs == cntOf zs) = true := by simp
  cases b with
  | false =>
    go_enter Try.func3, Try.ntmps3
    go_wp2_with (first | (go_at_call 12; ((with_reducible refine (HF.out).mono ?_); rintro e w' ⟨rfl, rfl⟩)) | (go_at_call 13; ((with_reducible refine (Ev.awake _).mono ?_); rintro e w' ⟨rfl, hw⟩)))
    go_ret
    exact ⟨rfl, T0.out.trans (bel_le hw T0.out.size)⟩
  | true =>
    go_enter Try.func3, Try.ntmps3
    go_wp2_with (first
      | (go_at_call 13; ((with_reducible refine (Ev.awake _).mono ?_); rintro e w' ⟨rfl, hw⟩))
      | (go_at_call 20; ((with_reducible refine (samelists L1.out L2.out).mono ?_); rintro e w' ⟨m1, rfl, rfl⟩))
      | (go_at_call 19; ((with_reducible refine (rcheck_any (ints_below HH.out T2.out)).mono ?_); rintro e w' ⟨rfl, rfl⟩))
      | (go_at_call 18; ((with_reducible refine (check_any (ints_below HH.out T2.out)).mono ?_); rintro e w' ⟨rfl, rfl⟩))
      | (go_at_call 17; ((with_reducible refine (rcount_any (ints_below HH.out T2.out)).mono ?_); rintro e w' ⟨rfl, rfl⟩))
      | (go_at_call 16; ((with_reducible refine (pcount_any (ints_below HH.out T2.out)).mono ?_); rintro e w' ⟨rfl, rfl⟩))
      | (go_at_call 15; ((with_reducible refine (rclasses_any (ints_below HH.out T1.out)).mono ?_); rintro e w2 ⟨v2, rfl, hb, hi⟩; have T2 := Lib.hid (T1.out.trans (bel_le hb T1.out.size)); have L1 := Lib.hid (LL.below L0.out hb); have L2 := Lib.hid hi; clear hb hi))
      | (go_at_call 14; ((with_reducible refine (HC1.out).mono ?_); rintro e w1 ⟨v1, rfl, hb, hi⟩; have T1 := Lib.hid (T0.out.trans (bel_le hb T0.out.size)); have L0 := Lib.hid hi; clear hb hi))
      | (go_at_call 12; ((with_reducible refine (HF.out).mono ?_); rintro e w' ⟨rfl, rfl⟩)))
    go_ret
    exact ⟨rfl, T2.out.trans ((below_drewN (Below.refl _ _) _).trans (bel_le hw (by simpa using T2.out.size)))⟩
end Go.Proofs.Ytlacohjecehpiaa.Part
