/-
  PartitionForms answers true: partitions of keys, and whether two elements are together.
-/
import Derived.Test.YtlacohjecehpiaaEvPaRefines
namespace Go.Proofs.Ytlacohjecehpiaa.Part
open Go Go.RowKit Go.Part Go.Law Go.Maps
def out (l : List Int) (i j : Int) : Prop := i < 0 ∨ (l.length : Int) ≤ i ∨ j < 0 ∨ (l.length : Int) ≤ j
instance (l : List Int) (i j : Int) : Decidable (out l i j) := by unfold out; infer_instance
def sameCode (l : List Int) (i j : Int) : Int := if code l ≠ 0 then code l else if out l i j then 2 else 0
def sameBool (l : List Int) (i j : Int) : Bool := if code l ≠ 0 then false else if out l i j then false else decide (l.getD i.toNat 0 = l.getD j.toNat 0)
theorem same_bad {l : List Int} {i j : Int} (h : code l ≠ 0) : sameCode l i j = code l ∧ sameBool l i j = false := by rw [sameCode, sameBool, if_pos h, if_pos h]; exact ⟨rfl, rfl⟩
theorem same_out {l : List Int} {i j : Int} (h : code l = 0) (h2 : out l i j) : sameCode l i j = 2 ∧ sameBool l i j = false := by
  constructor
  · rw [sameCode, if_neg (by simpa using h), if_pos h2]
  · rw [sameBool, if_neg (by simpa using h), if_pos h2]
theorem same_in {l : List Int} {i j : Int} (h : code l = 0) (h2 : ¬ out l i j) : sameCode l i j = 0 ∧ sameBool l i j = decide (l.getD i.toNat 0 = l.getD j.toNat 0) := by
  constructor
  · rw [sameCode, if_neg (by simpa using h), if_neg h2]
  · rw [sameBool, if_neg (by simpa using h), if_neg h2]
def SamePost (b : Bool) (c : Int) (W : World) (e : Ending) (w' : World) : Prop := ∃ m, e = .returned (.tuple #[.bool b, .int .i64 c]) ∧ w' = W.drewN m
theorem ret_same {a b : Bool} {c d : Int} (h : a = b) (h' : c = d) : Ending.returned (.tuple #[.bool a, .int .i64 c]) = .returned (.tuple #[.bool b, .int .i64 d]) := by rw [h, h']

set_option maxHeartbeats 1000000 in
theorem psame_in (b off len cap : Nat) (l : List Int) (hz : l.length = len) (p q : Nat) (hp : p < len) (hq : q < len) (w : World) (hc : At w b off l) (HA : Hid (Calls Try.prog 18 #[.slice (some ⟨b, off, none⟩) len cap] w fun e w' => e = .returned (.int .i64 0) ∧ w = w')) :
    Calls Try.prog 23 #[.slice (some ⟨b, off, none⟩) len cap, .int .i64 p, .int .i64 q] w (SamePost (decide (l.getD p 0 = l.getD q 0)) 0 w) := by
  have hcell := hc p (by omega)
  have hcell1 := hc q (by omega)
  generalize l.getD p 0 = x at *
  generalize l.getD q 0 = y at *
  clear hc hz
  go_enter Try.func23, Try.ntmps23
  go_wp2_with (go_at_call 18; ((with_reducible refine (HA.out).mono ?_); rintro e w' ⟨rfl, rfl⟩))
  go_quiet (fail)
  go_wp2
  go_ret2
  exact ⟨nq, ret_same (by rw [Bool.eq_iff_iff]; simp) rfl, rfl⟩
set_option maxHeartbeats 1000000 in
theorem psame_any {w : World} {v : Value} {l : List Int} (h : IntsAt w .i64 v l) (i j : Int) : Calls Try.prog 23 #[v, .int .i64 i, .int .i64 j] w (SamePost (sameBool l i j) (sameCode l i j) w) := by
  have HA := Lib.hid (check_any h)
  have HH := Lib.hid h
  obtain ⟨x, cap, rfl, h1, h2, h3⟩ := h
  unfold maxLen at h2
  have HC := Lib.hid h3
  clear h3
  by_cases c1 : code l = 0
  · rw [c1] at HA
    by_cases c2 : out l i j
    · rw [(same_out c1 c2).1, (same_out c1 c2).2]
      clear c1
      by_cases a1 : i < 0
      · clear c2
        go_enter Try.func23, Try.ntmps23
        go_wp2_with (go_at_call 18; ((with_reducible refine (HA.out).mono ?_); rintro e w' ⟨rfl, rfl⟩))
        go_ret2
        exact ⟨0, rfl, rfl⟩
      · by_cases a2 : (l.length : Int) ≤ i
        · clear c2
          go_enter Try.func23, Try.ntmps23
          go_wp2_with (go_at_call 18; ((with_reducible refine (HA.out).mono ?_); rintro e w' ⟨rfl, rfl⟩))
          go_ret2
          exact ⟨0, rfl, rfl⟩
        · by_cases a3 : j < 0
          · clear c2
            go_enter Try.func23, Try.ntmps23
            go_wp2_with (go_at_call 18; ((with_reducible refine (HA.out).mono ?_); rintro e w' ⟨rfl, rfl⟩))
            go_ret2
            exact ⟨0, rfl, rfl⟩
          · have a4 : (l.length : Int) ≤ j := by unfold out at c2; omega
            clear c2
            go_enter Try.func23, Try.ntmps23
            go_wp2_with (go_at_call 18; ((with_reducible refine (HA.out).mono ?_); rintro e w' ⟨rfl, rfl⟩))
            go_ret2
            exact ⟨0, rfl, rfl⟩
    · rw [(same_in c1 c2).1, (same_in c1 c2).2]
      unfold out at c2
      obtain ⟨p, rfl⟩ := Int.eq_ofNat_of_zero_le (show 0 ≤ i by omega)
      obtain ⟨q, rfl⟩ := Int.eq_ofNat_of_zero_le (show 0 ≤ j by omega)
      rcases HC.out with rfl | ⟨b, off, rfl, hb, hc⟩
      · exfalso; simp at c2
      · exact psame_in b off _ cap l rfl p q (by omega) (by omega) w hc HA
  · rw [(same_bad c1).1, (same_bad c1).2]
    have e1 := ne_true c1
    generalize code l = k at *
    clear c1
    go_enter Try.func23, Try.ntmps23
    go_wp2_with (go_at_call 18; ((with_reducible refine (HA.out).mono ?_); rintro e w' ⟨rfl, rfl⟩))
    go_ret2
    exact ⟨0, rfl, rfl⟩

set_option maxHeartbeats 1000000 in
theorem rsame_in (b off len cap : Nat) (l : List Int) (hz : l.length = len) (p q : Nat) (hp : p < len) (hq : q < len) (w : World) (hc : At w b off l) (HA : Hid (Calls Try.prog 19 #[.slice (some ⟨b, off, none⟩) len cap] w fun e w' => e = .returned (.int .i64 0) ∧ w = w')) :
    Calls Try.prog 24 #[.slice (some ⟨b, off, none⟩) len cap, .int .i64 p, .int .i64 q] w (SamePost (decide (l.getD p 0 = l.getD q 0)) 0 w) := by
  have hcell := hc p (by omega)
  have hcell1 := hc q (by omega)
  generalize l.getD p 0 = x at *
  generalize l.getD q 0 = y at *
  clear hc hz
  go_enter Try.func24, Try.ntmps24
  go_wp2_with (go_at_call 19; ((with_reducible refine (HA.out).mono ?_); rintro e w' ⟨rfl, rfl⟩))
  go_quiet (fail)
  go_wp2
  go_ret2
  exact ⟨nq, ret_same (by rw [Bool.eq_iff_iff]; simp) rfl, rfl⟩
set_option maxHeartbeats 1000000 in
theorem rsame_any {w : World} {v : Value} {l : List Int} (h : IntsAt w .i64 v l) (i j : Int) : Calls Try.prog 24 #[v, .int .i64 i, .int .i64 j] w (SamePost (sameBool l i j) (sameCode l i j) w) := by
  have HA := Lib.hid (rcheck_any h)
  have HH := Lib.hid h
  obtain ⟨x, cap, rfl, h1, h2, h3⟩ := h
  unfold maxLen at h2
  have HC := Lib.hid h3
  clear h3
  by_cases c1 : code l = 0
  · rw [c1] at HA
    by_cases c2 : out l i j
    · rw [(same_out c1 c2).1, (same_out c1 c2).2]
      clear c1
      by_cases a1 : i < 0
      · clear c2
        go_enter Try.func24, Try.ntmps24
        go_wp2_with (go_at_call 19; ((with_reducible refine (HA.out).mono ?_); rintro e w' ⟨rfl, rfl⟩))
        go_ret2
        exact ⟨0, rfl, rfl⟩
      · by_cases a2 : (l.length : Int) ≤ i
        · clear c2
          go_enter Try.func24, Try.ntmps24
          go_wp2_with (go_at_call 19; ((with_reducible refine (HA.out).mono ?_); rintro e w' ⟨rfl, rfl⟩))
          go_ret2
          exact ⟨0, rfl, rfl⟩
        · by_cases a3 : j < 0
          · clear c2
            go_enter Try.func24, Try.ntmps24
            go_wp2_with (go_at_call 19; ((with_reducible refine (HA.out).mono ?_); rintro e w' ⟨rfl, rfl⟩))
            go_ret2
            exact ⟨0, rfl, rfl⟩
          · have a4 : (l.length : Int) ≤ j := by unfold out at c2; omega
            clear c2
            go_enter Try.func24, Try.ntmps24
            go_wp2_with (go_at_call 19; ((with_reducible refine (HA.out).mono ?_); rintro e w' ⟨rfl, rfl⟩))
            go_ret2
            exact ⟨0, rfl, rfl⟩
    · rw [(same_in c1 c2).1, (same_in c1 c2).2]
      unfold out at c2
      obtain ⟨p, rfl⟩ := Int.eq_ofNat_of_zero_le (show 0 ≤ i by omega)
      obtain ⟨q, rfl⟩ := Int.eq_ofNat_of_zero_le (show 0 ≤ j by omega)
      rcases HC.out with rfl | ⟨b, off, rfl, hb, hc⟩
      · exfalso; simp at c2
      · exact rsame_in b off _ cap l rfl p q (by omega) (by omega) w hc HA
  · rw [(same_bad c1).1, (same_bad c1).2]
    have e1 := ne_true c1
    generalize code l = k at *
    clear c1
    go_enter Try.func24, Try.ntmps24
    go_wp2_with (go_at_call 19; ((with_reducible refine (HA.out).mono ?_); rintro e w' ⟨rfl, rfl⟩))
    go_ret2
    exact ⟨0, rfl, rfl⟩

set_option maxHeartbeats 2000000 in
set_option maxRecDepth 100000 in
theorem forms_walk {w : World} {v u : Value} {zs ys : List Int} (h : IntsAt w .i64 v zs) (hf : Fit zs) (h' : IntsAt w .i64 u ys) (i j : Int) :
    Calls Try.prog 4 #[v, u, .agg #[.int .i64 i, .int .i64 j]] w fun e w' => e = .returned (.bool true) ∧ Below w.heap.size w w' := by
  have HB0 := Lib.hid ((below_one w (.cells #[.int .i64 i, .int .i64 j] 39)).alloc (by simp) (.cells #[v, u] 22))
  have hA := below_one w (.cells #[.int .i64 i, .int .i64 j] 39)
  obtain ⟨b, hb⟩ : ∃ b, [zs, ys].any bad = !b := ⟨![zs, ys].any bad, by simp⟩
  have HF := Lib.hid (few_any _ 2 2 _ _ _ (rows2 (ints_below h hA) (ints_below h' hA)) (by omega) b hb)
  rw [size_alloc] at HF
  have HH := Lib.hid (ints_below h HB0.out)
  have HH' := Lib.hid (ints_below h' HB0.out)
  have HO := Lib.hid (of_any HH.out hf)
  have hc0 : (w.alloc (.cells #[.int .i64 i, .int .i64 j] 39)).cell? ⟨w.heap.size, 0, none⟩ = some (.int .i64 i) := by rw [World.cell?_alloc_at _ _ _ _ rfl]; rfl
  have hc1 : (w.alloc (.cells #[.int .i64 i, .int .i64 j] 39)).cell? ⟨w.heap.size, 1, none⟩ = some (.int .i64 j) := by rw [World.cell?_alloc_at _ _ _ _ rfl]; rfl
  have HC0 : Hid (∀ w1, Below ((w.alloc (.cells #[.int .i64 i, .int .i64 j] 39)).alloc (.cells #[v, u] 22)).heap.size ((w.alloc (.cells #[.int .i64 i, .int .i64 j] 39)).alloc (.cells #[v, u] 22)) w1 → w1.cell? ⟨w.heap.size, 0, none⟩ = some (.int .i64 i) ∧ w1.cell? ⟨w.heap.size, 1, none⟩ = some (.int .i64 j)) := Lib.hid fun w1 hw1 => by
    constructor
    · rw [hw1.cell (by simp; omega), World.cell?_alloc_past _ _ _ (by simp), hc0]
    · rw [hw1.cell (by simp; omega), World.cell?_alloc_past _ _ _ (by simp), hc1]
  obtain ⟨x, cap, rfl, h1, h2, h3⟩ := h
  obtain ⟨x', cap', rfl, h1', h2', h3'⟩ := h'
  clear h3 h3' h1 h1' h2 h2' hb hf hA hc0 hc1
  have e1 : (ofCode zs == ofCode zs) = true := by simp
  have e2 : (sameCode ys i j == sameCode ys i j) = true := by simp
  have e3 : (sameBool ys i j == sameBool ys i j) = true := by simp
  cases b with
  | false =>
    go_enter Try.func4, Try.ntmps4
    go_wp2_with (first | (go_at_call 12; ((with_reducible refine (HF.out).mono ?_); rintro e w' ⟨rfl, rfl⟩)) | (go_at_call 13; ((with_reducible refine (Ev.awake _).mono ?_); rintro e w' ⟨rfl, hw⟩)))
    go_ret
    exact ⟨rfl, HB0.out.trans (bel_le hw HB0.out.size)⟩
  | true =>
    go_enter Try.func4, Try.ntmps4
    go_wp2_with (first
      | (go_at_call 13; ((with_reducible refine (Ev.awake _).mono ?_); rintro e w' ⟨rfl, hw⟩))
      | (go_at_call 25; ((with_reducible refine (same_true (ints_drewN (ints_below HI1.out HB2.out) _) (ints_drewN HI2.out _)).mono ?_); rintro e w' ⟨m, rfl, rfl⟩))
      | (go_at_call 24; ((with_reducible refine (rsame_any (ints_drewN (ints_below (ints_below HH'.out HB1.out) HB2.out) _) i j).mono ?_); rintro e w' ⟨m2, rfl, rfl⟩))
      | (go_at_call 23; ((with_reducible refine (psame_any (ints_below (ints_below HH'.out HB1.out) HB2.out) i j).mono ?_); rintro e w' ⟨m1, rfl, rfl⟩))
      | (go_at_call 22; ((with_reducible refine (rof_any (ints_below HH.out HB1.out)).mono ?_); rintro e w2 ⟨v2, rfl, hb2, hi2⟩; obtain ⟨hd0, hd1⟩ := HC0.out _ (HB1.out.trans (bel_le hb2 HB1.out.size)); have HB2 := Lib.hid hb2; have HI2 := Lib.hid hi2; clear hb2 hi2))
      | (go_at_call 12; ((with_reducible refine (HF.out).mono ?_); rintro e w' ⟨rfl, rfl⟩))
      | (go_at_call 21; ((with_reducible refine (HO.out).mono ?_); rintro e w1 ⟨v1, rfl, hb1, hi1⟩; have HB1 := Lib.hid hb1; have HI1 := Lib.hid hi1; clear hb1 hi1)))
    go_ret
    have hz2 := Nat.le_trans HB0.out.size HB1.out.size
    have hz3 := Nat.le_trans hz2 HB2.out.size
    exact ⟨rfl, HB0.out.trans ((bel_le HB1.out HB0.out.size).trans ((bel_le HB2.out hz2).trans ((below_drewN (Below.refl _ _) _).trans (bel_le hw (by simpa using hz3)))))⟩
end Go.Proofs.Ytlacohjecehpiaa.Part
