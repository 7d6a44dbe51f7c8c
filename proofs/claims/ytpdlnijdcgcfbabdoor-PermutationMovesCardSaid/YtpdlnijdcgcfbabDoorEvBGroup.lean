/-
  PermutationGroup answers true: what it calls.
-/
import Derived.Test.YtpdlnijdcgcfbabDoorEvBPermOdd
import Derived.Test.YtpdlnijdcgcfbabDoorEvBPermInv
import Derived.Test.YtpdlnijdcgcfbabDoorEvBPermOrd
import Derived.Test.YtpdlnijdcgcfbabDoorEvPermMath3
namespace Go.Proofs.YtpdlnijdcgcfbabDoor.Perm
open Go Go.Ev Go.RowKit Go.Perm Go.Law
open Go.Proofs.YtpdlnijdcgcfbabDoor.Col (ret_int ret_bool ret_two)
open Go.Proofs.YtpdlnijdcgcfbabDoor.Ev

theorem compose2 {w : World} {v u : Value} {zs vs : List Int} (h : IntsAt w .i64 v zs) (g : IntsAt w .i64 u vs) (hz : check zs = 0) (hv : check vs = 0) (hl : vs.length = zs.length) :
    Calls Tryd.prog 9 #[v, u] w (VecPost (comp zs vs) 0 w) := by
  obtain ⟨h1, h5, _, _⟩ := check_ok hz
  have hf : Fits zs.length vs := by have := (check_ok hv).2.2.1; rw [hl] at this; exact this
  have h' := h
  have g' := g
  obtain ⟨a, cap, rfl, _⟩ := h'
  obtain ⟨a', cap', rfl, _⟩ := g'
  rw [hl]
  rw [hl] at g
  have H := Lib.hid h
  have G := Lib.hid g
  have HZ := Lib.hid hz
  have HV := Lib.hid hv
  have HL := Lib.hid hl
  have HF := Lib.hid hf
  clear h g hz hv hl hf
  generalize hn : zs.length = n at *
  have HN := Lib.hid hn
  clear hn
  have hb : ((n : Int) != (n : Int)) = false := by simp
  go_enter Tryd.func9, Tryd.ntmps9
  go_wp2_with fail
  refine (check_ints H.out).mono ?_
  rintro e w1 ⟨rfl, rfl⟩
  rw [HZ.out]
  go_wp2_with fail
  refine (check_ints G.out).mono ?_
  rintro e w1 ⟨rfl, rfl⟩
  rw [HV.out]
  go_wp2_with fail
  refine (compose_ints H.out G.out (by rw [HN.out, HL.out]) (by rw [HN.out]; exact h1) (by rw [HN.out]; exact h5) (by rw [HN.out]; exact HF.out)).mono ?_
  rintro e w2 ⟨x, rfl, hb2, hi⟩
  have HB := Lib.hid hb2
  have HI := Lib.hid hi
  clear hb2 hi
  go_wp2
  go_ret2
  exact ⟨x, rfl, HB.out, HI.out⟩
theorem identity2 (n : Nat) (h1 : 1 ≤ n) (h5 : n ≤ 5) (w : World) : Calls Tryd.prog 10 #[.int .i64 n] w (VecPost (ids n) 0 w) := by
  go_enter Tryd.func10, Tryd.ntmps10
  go_wp2_with fail
  refine (checkN_ok _ (by omega) (by omega) _).mono ?_
  rintro e w1 ⟨rfl, rfl⟩
  go_wp2_with fail
  refine (identity_any n h1 h5 _).mono ?_
  rintro e w2 ⟨x, rfl, hb2, hi⟩
  have HB := Lib.hid hb2
  have HI := Lib.hid hi
  clear hb2 hi
  go_wp2
  go_ret2
  exact ⟨x, rfl, HB.out, HI.out⟩
theorem inv2 {w : World} {v : Value} {zs : List Int} (h : IntsAt w .i64 v zs) (hz : check zs = 0) : Calls Tryd.prog 11 #[v] w (VecPost (inv zs) 0 w) := by
  have := inv_ints h
  unfold invR at this
  rw [if_neg (by omega)] at this
  exact this
theorem odd2 {w : World} {v : Value} {zs : List Int} (h : IntsAt w .i64 v zs) (hz : check zs = 0) {b : Bool} (hb : outer zs zs.length = b) : Calls Tryd.prog 13 #[v] w (Quiet (.tuple #[.bool b, .int .i64 0]) w) := by
  have := odd_ints h
  unfold oddR at this
  rw [if_neg (by omega), hb] at this
  exact this

/-! Are the lists permutations of the same processes? -/
def good (n : Nat) (z : List Int) : Bool := check z == 0 && z.length == n
theorem all_false {zs : List (List Int)} {n k : Nat} (hk : k < zs.length) (h : good n (zs.getD k []) = false) : zs.all (good n) = false := by
  rw [List.all_eq_false]
  refine ⟨zs.getD k [], ?_, by rw [h]; simp⟩
  rw [List.getD_eq_getElem?_getD, List.getElem?_eq_getElem hk]; exact List.getElem_mem hk
theorem all_succ {zs : List (List Int)} {n k : Nat} (hk : k < zs.length) (h : (zs.take k).all (good n) = true) (hg : good n (zs.getD k []) = true) : (zs.take (k + 1)).all (good n) = true := by
  rw [List.take_succ_eq_append_getElem hk, List.all_append, h]
  rw [List.getD_eq_getElem?_getD, List.getElem?_eq_getElem hk] at hg
  simpa using hg
set_option maxHeartbeats 1000000 in
theorem right_any (B : Nat) (vs : List Value) (zs : List (List Int)) (len n : Nat) (w : World) (hz : zs.length = len) (h1 : 0 < len) (hbig : len ≤ 100) (hc : ∀ j, j < len → w.cell? ⟨B, j, none⟩ = some (vs.getD j undef))
    (hi : ∀ j, j < len → IntsAt w .i64 (vs.getD j undef) (zs.getD j [])) (h0 : (zs.getD 0 []).length = n) :
    Calls Tryd.prog 7 #[.slice (some ⟨B, 0, none⟩) len len] w (Quiet (.bool (zs.all (good n))) w) := by
  have HC := Lib.hid hc
  have HI := Lib.hid hi
  have HZ := Lib.hid hz
  have HC0 := hc 0 h1
  obtain ⟨a0, cap0, hv0, _⟩ := hi 0 h1
  rw [hv0, h0] at HC0
  clear hc hi hz hv0 h0
  go_enter Tryd.func7, Tryd.ntmps7
  go_wp2
  go_loopw [7] (fun i wr => ∃ k m : Nat, k ≤ len ∧ i = .int .i64 k ∧ wr = w.drewN m ∧ (zs.take k).all (good n) = true) (fun i _ => len - (intOf i).toNat)
  case atStart => exact ⟨0, 0, Nat.zero_le _, rfl, rfl, by simp⟩
  case round =>
    obtain ⟨k, m, hk, rfl, rfl, hall⟩ := hrel
    have HA := Lib.hid hall
    clear hall
    by_cases hlt : k < len
    · have hcell := HC.out k hlt
      have HIk := Lib.hid (HI.out k hlt)
      have HF := Lib.hid (all_false (zs := zs) (n := n) (k := k) (by rw [HZ.out]; exact hlt))
      have HS := Lib.hid (all_succ (zs := zs) (n := n) (k := k) (by rw [HZ.out]; exact hlt) HA.out)
      generalize vs.getD k undef = v at *
      generalize zs.getD k [] = z at *
      obtain ⟨a, cap, rfl, _⟩ := HIk.out
      by_cases hch : check z = 0
      · have HCH := Lib.hid hch
        clear hch
        by_cases hl : z.length = n
        · have HL := Lib.hid hl
          generalize hzl : z.length = zl at *
          have HZL := Lib.hid hzl
          clear hzl
          have hb : ((zl : Int) != (n : Int)) = false := by simp [hl]
          clear hl
          go_wp2_with fail
          refine (rcheck_ints (HIk.out.drewN m)).mono ?_
          rintro e w1 ⟨rfl, m1, rfl⟩
          rw [HCH.out]
          go_wp2
          go_roundw
          case rel => exact ⟨k + 1, m + m1, by omega, by go_num, by first | rfl | simp [World.drewN_drewN], HS.out (by simp [good, HCH.out, HZL.out, HL.out])⟩
          case measure => simp [intOf]; omega
        · have HL := Lib.hid hl
          generalize hzl : z.length = zl at *
          have HZL := Lib.hid hzl
          clear hzl
          have hb : ((zl : Int) != (n : Int)) = true := by simpa using (by omega : (zl : Int) ≠ n)
          clear hl
          go_wp2_with fail
          refine (rcheck_ints (HIk.out.drewN m)).mono ?_
          rintro e w1 ⟨rfl, m1, rfl⟩
          rw [HCH.out]
          go_wp2
          go_ret
          exact ⟨ret_bool (HF.out (by simp [good, HZL.out, HL.out])).symm, m + m1, by first | rfl | simp [World.drewN_drewN]⟩
      · have hb : (check z != 0) = true := by simpa using hch
        have HCH := Lib.hid hch
        clear hch
        go_wp2_with fail
        refine (rcheck_ints (HIk.out.drewN m)).mono ?_
        rintro e w1 ⟨rfl, m1, rfl⟩
        go_wp2
        go_ret
        exact ⟨ret_bool (HF.out (by simp [good, HCH.out])).symm, m + m1, by first | rfl | simp [World.drewN_drewN]⟩
    · go_wp2
      go_ret
      have h := HA.out
      rw [List.take_of_length_le (by rw [HZ.out]; omega)] at h
      exact ⟨ret_bool h.symm, m, rfl⟩
end Go.Proofs.YtpdlnijdcgcfbabDoor.Perm
