/-
  The order of a permutation: the program's and the reference's.
-/
import Derived.Test.YtpdlnijdcgcfbabDoorEvBPermOwn
import Derived.Test.YtpdlnijdcgcfbabDoorEvBPermActs
namespace Go.Proofs.YtpdlnijdcgcfbabDoor.Perm
open Go Go.RowKit Go.Perm Go.Law
open Go.Proofs.YtpdlnijdcgcfbabDoor.Col (ret_int ret_bool ret_two)

/-! Equal lists, as the reference has it. -/
theorem same_len (a a' : Option Addr) (l c l' c' : Nat) (h : l ≠ l') (w : World) : Calls Tryd.prog 41 #[.slice a l c, .slice a' l' c'] w (Quiet (.bool false) w) := by
  have hb : ((l : Int) != (l' : Int)) = true := by simpa using (by omega : (l : Int) ≠ l')
  go_enter Tryd.func41, Tryd.ntmps41
  go_wp2
  go_ret
  exact ⟨rfl, 0, rfl⟩
theorem same_nil (a a' : Option Addr) (c c' : Nat) (w : World) : Calls Tryd.prog 41 #[.slice a 0 c, .slice a' 0 c'] w (Quiet (.bool true) w) := by
  go_enter Tryd.func41, Tryd.ntmps41
  go_wp2
  go_loop [5] (fun i => i = .int .i64 0) (fun _ => 0)
  case atStart => exact rfl
  case round =>
    obtain rfl := hrel
    go_wp2
    go_ret
    exact ⟨rfl, 0, rfl⟩
theorem eq_take_succ' {zs ys : List Int} {k : Nat} (h1 : k < zs.length) (h2 : k < ys.length) (h : zs.take k = ys.take k) (hx : zs.getD k 0 = ys.getD k 0) : zs.take (k + 1) = ys.take (k + 1) := by
  rw [take_snoc h1, take_snoc h2, h, hx]
set_option maxHeartbeats 800000 in
theorem same_any (b off len cap : Nat) (zs : List Int) (b1 off1 cap1 : Nat) (ys : List Int) (hz : zs.length = len) (hv : ys.length = len) (hlen : len ≤ 9223372036854775807) (w : World) (hc : At w b off zs) (hd : At w b1 off1 ys) :
    Calls Tryd.prog 41 #[.slice (some ⟨b, off, none⟩) len cap, .slice (some ⟨b1, off1, none⟩) len cap1] w (Quiet (.bool (decide (zs = ys))) w) := by
  have HC := Lib.hid hc
  have HD := Lib.hid hd
  have HZ := Lib.hid hz
  have HV := Lib.hid hv
  clear hc hd hz hv
  go_enter Tryd.func41, Tryd.ntmps41
  go_wp2
  go_loopw [5] (fun i wr => ∃ k m : Nat, k ≤ len ∧ i = .int .i64 k ∧ wr = w.drewN m ∧ zs.take k = ys.take k) (fun i _ => len - (intOf i).toNat)
  case atStart => exact ⟨0, 0, Nat.zero_le _, rfl, rfl, rfl⟩
  case round =>
    obtain ⟨k, m, hk, rfl, rfl, hsame⟩ := hrel
    have HS := Lib.hid hsame
    clear hsame
    have hz := HZ.out
    have hv := HV.out
    by_cases hlt : k < len
    · have hcell := HC.out k (by omega)
      have hcell1 := HD.out k (by omega)
      have HT := Lib.hid (eq_take_succ' (zs := zs) (ys := ys) (k := k) (by omega) (by omega) HS.out)
      have HG : Hid (zs = ys → zs.getD k 0 = ys.getD k 0) := Lib.hid (fun h => by rw [h])
      generalize zs.getD k 0 = x at *
      generalize ys.getD k 0 = y at *
      clear hz hv
      by_cases hxy : x = y
      · have hb : (x != y) = false := by simpa using hxy
        have HX := Lib.hid hxy
        clear hxy
        go_wp2
        go_quiet (fail)
        go_wp2
        exact ⟨⟨k + 1, m + nq, by omega, by go_num, rfl, HT.out HX.out⟩, by simp [intOf]; omega⟩
      · have hb : (x != y) = true := by simpa using hxy
        have HX := Lib.hid hxy
        clear hxy
        go_wp2
        go_quiet (fail)
        go_wp2
        go_ret
        refine ⟨ret_bool ?_, m + nq, by rw [World.drewN_drewN]⟩
        exact (decide_eq_false fun h => HX.out (HG.out h)).symm
    · clear hz hv
      go_wp2
      go_ret
      refine ⟨ret_bool ?_, m, rfl⟩
      have hz := HZ.out
      have hv := HV.out
      have h := HS.out
      rw [List.take_of_length_le (by omega), List.take_of_length_le (by omega)] at h
      exact (decide_eq_true h).symm
theorem same_ints {w : World} {v v' : Value} {zs ys : List Int} (h : IntsAt w .i64 v zs) (h' : IntsAt w .i64 v' ys) : Calls Tryd.prog 41 #[v, v'] w (Quiet (.bool (decide (zs = ys))) w) := by
  obtain ⟨a, cap, rfl, _, hmax, h0⟩ := h
  obtain ⟨a', cap', rfl, _, _, h0'⟩ := h'
  unfold maxLen at hmax
  by_cases hl : zs.length = ys.length
  · rcases h0 with rfl | ⟨b, off, rfl, _, hc⟩
    · have : ys = [] := List.length_eq_zero_iff.1 hl.symm
      subst this
      exact same_nil _ _ _ _ _
    · rcases h0' with rfl | ⟨b', off', rfl, _, hc'⟩
      · have : zs = [] := List.length_eq_zero_iff.1 hl
        subst this
        exact same_nil _ _ _ _ _
      · rw [← hl]
        exact same_any b off zs.length cap zs b' off' cap' ys rfl hl.symm (by omega) w hc hc'
  · have hne : zs ≠ ys := fun h => hl (by rw [h])
    rw [decide_eq_false hne]
    exact same_len _ _ _ _ _ _ hl _
theorem same_same {w : World} {v v' : Value} {zs : List Int} (h : IntsAt w .i64 v zs) (h' : IntsAt w .i64 v' zs) : Calls Tryd.prog 41 #[v, v'] w (Quiet (.bool true) w) := by
  have := same_ints h h'
  rwa [decide_eq_true rfl] at this

theorem equal_no {w : World} {v v' : Value} {zs ys : List Int} (h : IntsAt w .i64 v zs) (h' : IntsAt w .i64 v' ys) (hne : zs ≠ ys) : Calls Tryd.prog 12 #[v, v'] w (Quiet (.bool false) w) := by
  have := equal_ints h h'
  rwa [decide_eq_false hne] at this
theorem equal_yes {w : World} {v v' : Value} {zs ys : List Int} (h : IntsAt w .i64 v zs) (h' : IntsAt w .i64 v' ys) (he : zs = ys) : Calls Tryd.prog 12 #[v, v'] w (Quiet (.bool true) w) := by
  have := equal_ints h h'
  rwa [decide_eq_true he] at this
theorem same_no {w : World} {v v' : Value} {zs ys : List Int} (h : IntsAt w .i64 v zs) (h' : IntsAt w .i64 v' ys) (hne : zs ≠ ys) : Calls Tryd.prog 41 #[v, v'] w (Quiet (.bool false) w) := by
  have := same_ints h h'
  rwa [decide_eq_false hne] at this
theorem same_yes {w : World} {v v' : Value} {zs ys : List Int} (h : IntsAt w .i64 v zs) (h' : IntsAt w .i64 v' ys) (he : zs = ys) : Calls Tryd.prog 41 #[v, v'] w (Quiet (.bool true) w) := by
  have := same_ints h h'
  rwa [decide_eq_true he] at this
theorem at_ints {w : World} {v : Value} {zs : List Int} (h : IntsAt w .i64 v zs) (h1 : 1 ≤ zs.length) : ∃ b off cap, v = .slice (some ⟨b, off, none⟩) zs.length cap ∧ At w b off zs := by
  obtain ⟨a, cap, rfl, _, _, h0⟩ := h
  rcases h0 with rfl | ⟨b, off, rfl, _, hc⟩
  · simp at h1
  · exact ⟨b, off, cap, rfl, hc⟩
theorem compose_ints {w : World} {v u : Value} {zs vs : List Int} (h : IntsAt w .i64 v zs) (g : IntsAt w .i64 u vs) (hl : vs.length = zs.length) (h1 : 1 ≤ zs.length) (h5 : zs.length ≤ 5) (hf : Fits zs.length vs) :
    Calls Tryd.prog 31 #[v, u] w (OnePost (comp zs vs) w) := by
  obtain ⟨b, off, cap, rfl, hc⟩ := at_ints h h1
  obtain ⟨b', off', cap', rfl, hc'⟩ := at_ints g (by omega)
  rw [hl]
  exact compose_any b off _ cap zs b' off' cap' vs rfl hl h1 h5 hf w hc hc'
/-- A number, and an error; what was there is as it was. -/
def NumPost (r c : Int) (W : World) (e : Ending) (w' : World) : Prop := e = .returned (.tuple #[.int .i64 r, .int .i64 c]) ∧ Below W.heap.size W w'
theorem far_lt {l : List Int} {j : Nat} (h : check l = 0) (hm : ∀ i, i < j → pw l i ≠ ids l.length) (hj : pw l j ≠ ids l.length) : j < 5 := by
  obtain ⟨t, ht, he⟩ := ord_exists h
  by_cases hlt : t < j
  · exact absurd he (hm t hlt)
  · by_cases hjt : t = j
    · exact absurd (hjt ▸ he) hj
    · omega
theorem less_succ {P : Nat → Prop} {j : Nat} (h : ∀ i, i < j → P i) (hj : P j) : ∀ i, i < j + 1 → P i := fun i hi => by
  by_cases e : i = j
  · rw [e]; exact hj
  · exact h i (by omega)

set_option maxHeartbeats 1000000 in
theorem order_any {w : World} (a : Option Addr) (cap : Nat) (zs : List Int) (hv : IntsAt w .i64 (.slice a zs.length cap) zs) (hok : check zs = 0) : Calls Tryd.prog 27 #[.slice a zs.length cap] w (NumPost (ord zs) 0 w) := by
  obtain ⟨h1, h5, hr, _⟩ := check_ok hok
  have HR : Hid (Fits zs.length zs) := Lib.hid hr
  have HV := Lib.hid hv
  have HO := Lib.hid hok
  clear hv hr hok
  generalize hn : zs.length = n at *
  have HN := Lib.hid hn
  clear hn
  go_enter Tryd.func27, Tryd.ntmps27
  go_wp2_with fail
  refine (check_ints HV.out).mono ?_
  rintro e w' ⟨rfl, rfl⟩
  rw [HO.out]
  go_wp2_with fail
  refine (identity_any n h1 h5 _).mono ?_
  rintro e w1 ⟨v1, rfl, hb1, hi1⟩
  have HB1 := Lib.hid hb1
  have HI1 := Lib.hid hi1
  clear hb1 hi1
  go_wp2_with fail
  go_loopw [6, 7] (fun t b wr => ∃ j : Nat, j < 6 ∧ t = .int .i64 ((j + 1 : Nat) : Int) ∧ IntsAt wr .i64 b (pw zs j) ∧ Below w1.heap.size w1 wr ∧ ∀ i, i < j → pw zs i ≠ ids n) (fun t _ _ => 7 - (intOf t).toNat)
  case atStart => exact ⟨0, by omega, rfl, HV.out.below HB1.out, Below.refl _ _, fun i hi => absurd hi (by omega)⟩
  case round =>
    obtain ⟨j, hj6, rfl, hb, hbl, hm⟩ := hrel
    have HBI := Lib.hid hb
    have HBL := Lib.hid hbl
    have HM := Lib.hid hm
    clear hb hbl hm
    by_cases he : pw zs j = ids n
    · have HE := Lib.hid he
      clear he
      go_wp2_with fail
      refine (equal_yes HBI.out (HI1.out.below HBL.out) HE.out).mono ?_
      rintro e w2 ⟨rfl, m, rfl⟩
      go_wp2
      go_ret2
      refine ⟨ret_two ?_ rfl, (HB1.out.trans (HBL.out.mono HB1.out.size)).trans (below_drewN (Below.refl _ _) _)⟩
      have := ord_of (l := zs) hj6 (by rw [HN.out]; exact HE.out) (by rw [HN.out]; exact HM.out)
      omega
    · have HE := Lib.hid he
      have hlt : j < 5 := far_lt HO.out (by rw [HN.out]; exact HM.out) (by rw [HN.out]; exact he)
      clear he
      go_wp2_with fail
      refine (equal_no HBI.out (HI1.out.below HBL.out) HE.out).mono ?_
      rintro e w2 ⟨rfl, m, rfl⟩
      go_wp2_with fail
      refine (compose_ints (zs := zs) (vs := pw zs j) (((HV.out.below HB1.out).below HBL.out).drewN m) (HBI.out.drewN m) (pw_length zs j) (by rw [HN.out]; exact h1) (by rw [HN.out]; exact h5) (by rw [HN.out]; have := pw_fits (a := zs) (by rw [HN.out]; exact HR.out) j; rwa [HN.out] at this)).mono ?_
      rintro e w3 ⟨v3, rfl, hb3, hi3⟩
      have HB3 := Lib.hid hb3
      have HI3 := Lib.hid hi3
      clear hb3 hi3
      go_wp2
      exact ⟨⟨j + 1, by omega, by go_num, HI3.out, (HBL.out.trans (below_drewN (Below.refl _ _) m)).trans (HB3.out.mono (by have := HBL.out.size; simpa using this)), less_succ HM.out HE.out⟩, by simp [intOf]; omega⟩
end Go.Proofs.YtpdlnijdcgcfbabDoor.Perm
