/-
  PermutationComposes: compositions and identities, with their errors.
-/
import Derived.Test.YtpdlnijdcgcfbaaDoorEvPermAll
import Derived.Test.YtpdlnijdcgcfbaaDoorEvPermActsWalk
namespace Go.Proofs.YtpdlnijdcgcfbaaDoor.Perm
open Go Go.Ev Go.RowKit Go.Perm Go.Law
open Go.Proofs.YtpdlnijdcgcfbaaDoor.Col (ret_int ret_bool ret_two)
open Go.Proofs.YtpdlnijdcgcfbaaDoor.Ev

def compR (x y : List Int) : List Int × Int := if check x ≠ 0 then ([], check x) else if check y ≠ 0 then ([], check y) else if x.length ≠ y.length then ([], 22) else (comp x y, 0)
set_option maxHeartbeats 1000000 in
theorem comp_ints {w : World} {v u : Value} {x y : List Int} (h : IntsAt w .i64 v x) (g : IntsAt w .i64 u y) : Calls Tryd.prog 51 #[v, u] w (VecPost (compR x y).1 (compR x y).2 w) := by
  have h' := h
  have g' := g
  obtain ⟨a, cap, rfl, _⟩ := h'
  obtain ⟨a', cap', rfl, _⟩ := g'
  have H := Lib.hid h
  have G := Lib.hid g
  clear h g
  unfold compR
  by_cases k1 : check x ≠ 0
  · rw [if_pos k1]
    have hb : (check x != 0) = true := by simpa using k1
    go_enter Tryd.func51, Tryd.ntmps51
    go_wp2_with fail
    refine (check_ints H.out).mono ?_
    rintro e w1 ⟨rfl, rfl⟩
    go_wp2
    go_ret2
    exact ⟨_, rfl, Below.refl _ _, nil_ints _⟩
  · rw [if_neg k1]
    have k1' := Lib.hid (Decidable.not_not.1 k1)
    by_cases k2 : check y ≠ 0
    · rw [if_pos k2]
      have hb : (check y != 0) = true := by simpa using k2
      clear k1
      go_enter Tryd.func51, Tryd.ntmps51
      go_wp2_with fail
      refine (check_ints H.out).mono ?_
      rintro e w1 ⟨rfl, rfl⟩
      rw [k1'.out]
      go_wp2_with fail
      refine (check_ints G.out).mono ?_
      rintro e w2 ⟨rfl, rfl⟩
      go_wp2
      go_ret2
      exact ⟨_, rfl, Below.refl _ _, nil_ints _⟩
    · rw [if_neg k2]
      have k2' := Lib.hid (Decidable.not_not.1 k2)
      clear k1 k2
      by_cases hl : x.length ≠ y.length
      · rw [if_pos hl]
        have hb : ((x.length : Int) != (y.length : Int)) = true := by simpa using (by omega : (x.length : Int) ≠ y.length)
        go_enter Tryd.func51, Tryd.ntmps51
        go_wp2_with fail
        refine (check_ints H.out).mono ?_
        rintro e w1 ⟨rfl, rfl⟩
        rw [k1'.out]
        go_wp2_with fail
        refine (check_ints G.out).mono ?_
        rintro e w2 ⟨rfl, rfl⟩
        rw [k2'.out]
        go_wp2
        go_ret2
        exact ⟨_, rfl, Below.refl _ _, nil_ints _⟩
      · rw [if_neg hl]
        have hl' := Decidable.not_not.1 hl
        obtain ⟨g1, g5, _, _⟩ := check_ok k1'.out
        have HF : Hid (Fits x.length y) := Lib.hid (by have := (check_ok k2'.out).2.2.1; rw [← hl'] at this; exact this)
        have HL := Lib.hid hl'.symm
        clear hl
        rw [← hl'] at G ⊢
        clear hl'
        generalize hn : x.length = n at *
        have HN := Lib.hid hn
        clear hn
        have hb : ((n : Int) != (n : Int)) = false := by simp
        go_enter Tryd.func51, Tryd.ntmps51
        go_wp2_with fail
        refine (check_ints H.out).mono ?_
        rintro e w1 ⟨rfl, rfl⟩
        rw [k1'.out]
        go_wp2_with fail
        refine (check_ints G.out).mono ?_
        rintro e w2 ⟨rfl, rfl⟩
        rw [k2'.out]
        go_wp2_with fail
        refine (compose_ints H.out G.out (by rw [HN.out, HL.out]) (by rw [HN.out]; exact g1) (by rw [HN.out]; exact g5) (by rw [HN.out]; exact HF.out)).mono ?_
        rintro e w3 ⟨z, rfl, hb3, hi3⟩
        have HB := Lib.hid hb3
        have HI := Lib.hid hi3
        clear hb3 hi3
        go_wp2
        go_ret2
        exact ⟨z, rfl, HB.out, HI.out⟩
set_option maxHeartbeats 1000000 in
theorem rcomp_ints {w : World} {v u : Value} {x y : List Int} (h : IntsAt w .i64 v x) (g : IntsAt w .i64 u y) : Calls Tryd.prog 52 #[v, u] w (VecPost (compR x y).1 (compR x y).2 w) := by
  have h' := h
  have g' := g
  obtain ⟨a, cap, rfl, _⟩ := h'
  obtain ⟨a', cap', rfl, _⟩ := g'
  have H := Lib.hid h
  have G := Lib.hid g
  clear h g
  unfold compR
  by_cases k1 : check x ≠ 0
  · rw [if_pos k1]
    have hb : (check x != 0) = true := by simpa using k1
    go_enter Tryd.func52, Tryd.ntmps52
    go_wp2_with fail
    refine (rcheck_ints H.out).mono ?_
    rintro e w1 ⟨rfl, m1, rfl⟩
    go_wp2
    go_ret2
    exact ⟨_, rfl, below_drewN (Below.refl _ _) m1, nil_ints _⟩
  · rw [if_neg k1]
    have k1' := Lib.hid (Decidable.not_not.1 k1)
    by_cases k2 : check y ≠ 0
    · rw [if_pos k2]
      have hb : (check y != 0) = true := by simpa using k2
      clear k1
      go_enter Tryd.func52, Tryd.ntmps52
      go_wp2_with fail
      refine (rcheck_ints H.out).mono ?_
      rintro e w1 ⟨rfl, m1, rfl⟩
      rw [k1'.out]
      go_wp2_with fail
      refine (rcheck_ints (G.out.drewN m1)).mono ?_
      rintro e w2 ⟨rfl, m2, rfl⟩
      go_wp2
      go_ret2
      exact ⟨_, rfl, below_drewN (Below.refl _ _) (m1 + m2), nil_ints _⟩
    · rw [if_neg k2]
      have k2' := Lib.hid (Decidable.not_not.1 k2)
      clear k1 k2
      by_cases hl : x.length ≠ y.length
      · rw [if_pos hl]
        have hb : ((x.length : Int) != (y.length : Int)) = true := by simpa using (by omega : (x.length : Int) ≠ y.length)
        go_enter Tryd.func52, Tryd.ntmps52
        go_wp2_with fail
        refine (rcheck_ints H.out).mono ?_
        rintro e w1 ⟨rfl, m1, rfl⟩
        rw [k1'.out]
        go_wp2_with fail
        refine (rcheck_ints (G.out.drewN m1)).mono ?_
        rintro e w2 ⟨rfl, m2, rfl⟩
        rw [k2'.out]
        go_wp2
        go_ret2
        exact ⟨_, rfl, below_drewN (Below.refl _ _) (m1 + m2), nil_ints _⟩
      · rw [if_neg hl]
        have hl' := Decidable.not_not.1 hl
        obtain ⟨g1, g5, _, _⟩ := check_ok k1'.out
        have HF : Hid (Fits x.length y) := Lib.hid (by have := (check_ok k2'.out).2.2.1; rw [← hl'] at this; exact this)
        have HL := Lib.hid hl'.symm
        clear hl
        rw [← hl'] at G ⊢
        clear hl'
        generalize hn : x.length = n at *
        have HN := Lib.hid hn
        clear hn
        have hb : ((n : Int) != (n : Int)) = false := by simp
        go_enter Tryd.func52, Tryd.ntmps52
        go_wp2_with fail
        refine (rcheck_ints H.out).mono ?_
        rintro e w1 ⟨rfl, m1, rfl⟩
        rw [k1'.out]
        go_wp2_with fail
        refine (rcheck_ints (G.out.drewN m1)).mono ?_
        rintro e w2 ⟨rfl, m2, rfl⟩
        rw [k2'.out]
        go_wp2_with fail
        refine (times_ints (H.out.drewN (m1 + m2)) (G.out.drewN (m1 + m2)) (by rw [HN.out, HL.out]) (by rw [HN.out]; exact g1) (by rw [HN.out]; exact g5) (by rw [HN.out]; exact HF.out)).mono ?_
        rintro e w3 ⟨z, rfl, hb3, hi3⟩
        have HB := Lib.hid hb3
        have HI := Lib.hid hi3
        clear hb3 hi3
        go_wp2
        go_ret2
        exact ⟨z, rfl, (below_drewN (Below.refl _ _) (m1 + m2)).trans (HB.out.mono (by simp)), HI.out⟩
def idR (n : Int) : List Int × Int := if n < 1 ∨ 5 < n then ([], 2) else (ids n.toNat, 0)
theorem id_any (n : Int) (w : World) : Calls Tryd.prog 53 #[.int .i64 n] w (VecPost (idR n).1 (idR n).2 w) := by
  unfold idR
  by_cases h : n < 1 ∨ 5 < n
  · rw [if_pos h]
    go_enter Tryd.func53, Tryd.ntmps53
    go_wp2_with (go_at_call 98; refine (checkN_bad _ h _).mono ?_; rintro e w' ⟨rfl, rfl⟩)
    go_ret2
    exact ⟨_, rfl, Below.refl _ _, nil_ints _⟩
  · rw [if_neg h]
    obtain ⟨k, rfl⟩ := Int.eq_ofNat_of_zero_le (show 0 ≤ n by omega)
    rw [Int.toNat_natCast]
    have h1 : 1 ≤ k := by omega
    have h5 : k ≤ 5 := by omega
    clear h
    go_enter Tryd.func53, Tryd.ntmps53
    go_wp2_with fail
    refine (checkN_ok _ (by omega) (by omega) _).mono ?_
    rintro e w' ⟨rfl, rfl⟩
    go_wp2_with fail
    refine (identity_any k h1 h5 _).mono ?_
    rintro e w2 ⟨x, rfl, hb2, hi⟩
    have HB := Lib.hid hb2
    have HI := Lib.hid hi
    clear hb2 hi
    go_wp2
    go_ret2
    exact ⟨x, rfl, HB.out, HI.out⟩
theorem rid_any (n : Int) (w : World) : Calls Tryd.prog 54 #[.int .i64 n] w (VecPost (idR n).1 (idR n).2 w) := by
  unfold idR
  by_cases h : n < 1 ∨ 5 < n
  · rw [if_pos h]
    rcases h with h | h
    · go_enter Tryd.func54, Tryd.ntmps54
      go_wp2
      go_ret2
      exact ⟨_, rfl, Below.refl _ _, nil_ints _⟩
    · have h1 : ¬ n < 1 := by omega
      go_enter Tryd.func54, Tryd.ntmps54
      go_wp2
      go_ret2
      exact ⟨_, rfl, Below.refl _ _, nil_ints _⟩
  · rw [if_neg h]
    obtain ⟨k, rfl⟩ := Int.eq_ofNat_of_zero_le (show 0 ≤ n by omega)
    rw [Int.toNat_natCast]
    have h1 : 1 ≤ k := by omega
    have h5 : k ≤ 5 := by omega
    clear h
    go_enter Tryd.func54, Tryd.ntmps54
    go_wp2_with fail
    refine (one_any k h5 _).mono ?_
    rintro e w2 ⟨x, rfl, hb2, hi⟩
    have HB := Lib.hid hb2
    have HI := Lib.hid hi
    clear hb2 hi
    go_wp2
    go_ret2
    exact ⟨x, rfl, HB.out, HI.out⟩
def allR (n : Int) : List (List Int) × Int := if n < 1 ∨ 5 < n then ([], 2) else (al n.toNat n.toNat, 0)
theorem allR_small (n : Int) : (allR n).1.length ≤ 200 := by
  unfold allR
  by_cases h : n < 1 ∨ 5 < n
  · rw [if_pos h]; simp
  · rw [if_neg h]
    have := (al_small n.toNat (by omega) n.toNat (by omega) (Nat.le_refl _)).1
    show (al n.toNat n.toNat).length ≤ 200
    omega
theorem all_ints (n : Int) (w : World) : Calls Tryd.prog 55 #[.int .i64 n] w (ListsRet (allR n).1 (allR n).2 w) := by
  unfold allR
  by_cases h : n < 1 ∨ 5 < n
  · rw [if_pos h]; exact all_bad n h w
  · rw [if_neg h]
    obtain ⟨k, rfl⟩ := Int.eq_ofNat_of_zero_le (show 0 ≤ n by omega)
    rw [Int.toNat_natCast]
    exact all_any k (by omega) (by omega) w
theorem rall_ints (n : Int) (w : World) : Calls Tryd.prog 56 #[.int .i64 n] w (ListsRet (allR n).1 (allR n).2 w) := by
  unfold allR
  by_cases h : n < 1 ∨ 5 < n
  · rw [if_pos h]; exact rall_bad n h w
  · rw [if_neg h]
    obtain ⟨k, rfl⟩ := Int.eq_ofNat_of_zero_le (show 0 ≤ n by omega)
    rw [Int.toNat_natCast]
    exact rall_any k (by omega) (by omega) w
end Go.Proofs.YtpdlnijdcgcfbaaDoor.Perm
