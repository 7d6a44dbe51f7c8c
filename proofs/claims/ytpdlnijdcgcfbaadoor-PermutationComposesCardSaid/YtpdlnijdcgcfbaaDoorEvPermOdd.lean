/-
  Inversions: the program and the reference.
-/
import Derived.Test.YtpdlnijdcgcfbaaDoorEvPermOrd
import Derived.Test.YtpdlnijdcgcfbaaDoorEvPermInv
namespace Go.Proofs.YtpdlnijdcgcfbaaDoor.Perm
open Go Go.RowKit Go.Perm Go.Law
open Go.Proofs.YtpdlnijdcgcfbaaDoor.Col (ret_int ret_bool ret_two)

set_option maxHeartbeats 1000000 in
theorem odd_any {w : World} (b off len cap : Nat) (zs : List Int) (hz : zs.length = len) (hv : IntsAt w .i64 (.slice (some ⟨b, off, none⟩) len cap) zs) (hc : At w b off zs) (hok : check zs = 0) : Calls Tryd.prog 47 #[.slice (some ⟨b, off, none⟩) len cap] w (Quiet (.tuple #[.bool (outer zs len), .int .i64 0]) w) := by
  obtain ⟨h1, h5, hr, _⟩ := check_ok hok
  rw [hz] at h1 h5
  have HZ := Lib.hid hz
  have HV := Lib.hid hv
  have HC := Lib.hid hc
  have HO := Lib.hid hok
  clear hv hr hok hz hc
  go_enter Tryd.func47, Tryd.ntmps47
  go_wp2_with (go_at_call 49; refine (check_ints HV.out).mono ?_; rintro e w' ⟨rfl, rfl⟩; rw [HO.out])
  go_loopw [5, 15] (fun o i wr => ∃ k m : Nat, k ≤ len ∧ i = .int .i64 k ∧ o = .bool (outer zs k) ∧ wr = w.drewN m) (fun _ i _ => len - (intOf i).toNat)
  case atStart => exact ⟨0, 0, Nat.zero_le _, rfl, rfl, rfl⟩
  case round =>
    obtain ⟨k, m, hk, rfl, rfl, rfl⟩ := hrel
    by_cases hlt : k < len
    · have HK := Lib.hid (show outer zs (k + 1) = inner zs k k (outer zs k) from rfl)
      have hcell := HC.out k (by have := HZ.out; omega)
      have HX0 : Hid (zs.getD k 0 = zs.getD k 0) := Lib.hid rfl
      generalize hx : zs.getD k 0 = x at hcell
      generalize ho : outer zs k = o0 at *
      have HX := Lib.hid hx
      clear hx HX0 ho
      go_wp2
      go_loopw [5, 19] (fun o i wr => ∃ p m2 : Nat, p ≤ k ∧ i = .int .i64 p ∧ o = .bool (inner zs k p o0) ∧ wr = w.drewN m2) (fun _ i _ => k - (intOf i).toNat)
      case atStart => exact ⟨0, m, Nat.zero_le _, rfl, rfl, rfl⟩
      case round =>
        obtain ⟨p, m2, hp, rfl, rfl, rfl⟩ := hrel
        by_cases hpk : p < k
        · have hcell1 := HC.out p (by have := HZ.out; omega)
          have HS := Lib.hid (show inner zs k (p + 1) o0 = if zs.getD k 0 < zs.getD p 0 then !(inner zs k p o0) else inner zs k p o0 from rfl)
          generalize hy : zs.getD p 0 = y at *
          have HY := Lib.hid hy
          clear hy
          rw [HX.out] at HS
          generalize inner zs k p o0 = o1 at *
          by_cases hxy : x < y
          · have hd : decide (x < y) = true := by simpa using hxy
            go_wp2
            go_quiet (fail)
            go_wp2
            exact ⟨⟨p + 1, m2 + nq, by omega, by go_num, by rw [HS.out, if_pos hxy], rfl⟩, by simp [intOf]; omega⟩
          · have hd : decide (x < y) = false := by simpa using hxy
            go_wp2
            go_quiet (fail)
            go_wp2
            exact ⟨⟨p + 1, m2 + nq, by omega, by go_num, by rw [HS.out, if_neg (by omega)], rfl⟩, by simp [intOf]; omega⟩
        · go_wp2
          have hpk' : p = k := by omega
          subst hpk'
          exact ⟨⟨p + 1, m2, by omega, by go_num, by rw [HK.out], rfl⟩, by simp [intOf]; omega⟩
    · go_wp2
      go_ret2
      have hk' : k = len := by omega
      subst hk'
      exact ⟨rfl, m, rfl⟩
set_option maxHeartbeats 1000000 in
theorem rodd_any {w : World} (b off len cap : Nat) (zs : List Int) (hz : zs.length = len) (hv : IntsAt w .i64 (.slice (some ⟨b, off, none⟩) len cap) zs) (hc : At w b off zs) (hok : check zs = 0) : Calls Tryd.prog 48 #[.slice (some ⟨b, off, none⟩) len cap] w (Quiet (.tuple #[.bool (outer zs len), .int .i64 0]) w) := by
  obtain ⟨h1, h5, hr, _⟩ := check_ok hok
  rw [hz] at h1 h5
  have HZ := Lib.hid hz
  have HV := Lib.hid hv
  have HC := Lib.hid hc
  have HO := Lib.hid hok
  clear hv hr hok hz hc
  go_enter Tryd.func48, Tryd.ntmps48
  go_wp2_with (go_at_call 50; refine (rcheck_ints HV.out).mono ?_; rintro e w' ⟨rfl, m0, rfl⟩; rw [HO.out])
  go_loopw [5, 6] (fun o i wr => ∃ k m : Nat, k ≤ len ∧ i = .int .i64 k ∧ o = .bool (outer zs k) ∧ wr = w.drewN m) (fun _ i _ => len - (intOf i).toNat)
  case atStart => exact ⟨0, m0, Nat.zero_le _, rfl, rfl, rfl⟩
  case round =>
    obtain ⟨k, m, hk, rfl, rfl, rfl⟩ := hrel
    by_cases hlt : k < len
    · have HK := Lib.hid (show outer zs (k + 1) = inner zs k k (outer zs k) from rfl)
      have hcell := HC.out k (by have := HZ.out; omega)
      have HX0 : Hid (zs.getD k 0 = zs.getD k 0) := Lib.hid rfl
      generalize hx : zs.getD k 0 = x at hcell
      generalize ho : outer zs k = o0 at *
      have HX := Lib.hid hx
      clear hx HX0 ho
      go_wp2
      go_loopw [5, 7] (fun o i wr => ∃ p m2 : Nat, p ≤ k ∧ i = .int .i64 p ∧ o = .bool (inner zs k p o0) ∧ wr = w.drewN m2) (fun _ i _ => k - (intOf i).toNat)
      case atStart => exact ⟨0, m, Nat.zero_le _, rfl, rfl, rfl⟩
      case round =>
        obtain ⟨p, m2, hp, rfl, rfl, rfl⟩ := hrel
        by_cases hpk : p < k
        · have hcell1 := HC.out p (by have := HZ.out; omega)
          have HS := Lib.hid (show inner zs k (p + 1) o0 = if zs.getD k 0 < zs.getD p 0 then !(inner zs k p o0) else inner zs k p o0 from rfl)
          generalize hy : zs.getD p 0 = y at *
          have HY := Lib.hid hy
          clear hy
          rw [HX.out] at HS
          generalize inner zs k p o0 = o1 at *
          by_cases hxy : x < y
          · have hd : decide (x < y) = true := by simpa using hxy
            go_wp2
            go_quiet (fail)
            go_wp2
            exact ⟨⟨p + 1, m2 + nq, by omega, by go_num, by rw [HS.out, if_pos hxy], rfl⟩, by simp [intOf]; omega⟩
          · have hd : decide (x < y) = false := by simpa using hxy
            go_wp2
            go_quiet (fail)
            go_wp2
            exact ⟨⟨p + 1, m2 + nq, by omega, by go_num, by rw [HS.out, if_neg (by omega)], rfl⟩, by simp [intOf]; omega⟩
        · go_wp2
          have hpk' : p = k := by omega
          subst hpk'
          exact ⟨⟨p + 1, m2, by omega, by go_num, by rw [HK.out], rfl⟩, by simp [intOf]; omega⟩
    · go_wp2
      go_ret2
      have hk' : k = len := by omega
      subst hk'
      exact ⟨rfl, m, rfl⟩

def oddR (zs : List Int) : Bool × Int := if check zs ≠ 0 then (false, check zs) else (outer zs zs.length, 0)
theorem odd_err (v : Value) (c : Int) (hc0 : c ≠ 0) (w : World) (h : Calls Tryd.prog 49 #[v] w fun e w' => e = .returned (.int .i64 c) ∧ w = w') :
    Calls Tryd.prog 47 #[v] w (Quiet (.tuple #[.bool false, .int .i64 c]) w) := by
  have HI := Lib.hid h
  clear h
  have hb : (c != 0) = true := by simpa using hc0
  go_enter Tryd.func47, Tryd.ntmps47
  go_wp2_with (go_at_call 49; refine (HI.out).mono ?_; rintro e w' ⟨rfl, rfl⟩)
  go_ret2
  exact ⟨rfl, 0, rfl⟩
theorem rodd_err (v : Value) (c : Int) (hc0 : c ≠ 0) (w : World) (h : Calls Tryd.prog 50 #[v] w (Quiet (.int .i64 c) w)) :
    Calls Tryd.prog 48 #[v] w (Quiet (.tuple #[.bool false, .int .i64 c]) w) := by
  have HI := Lib.hid h
  clear h
  have hb : (c != 0) = true := by simpa using hc0
  go_enter Tryd.func48, Tryd.ntmps48
  go_wp2_with (go_at_call 50; refine (HI.out).mono ?_; rintro e w' ⟨rfl, m, rfl⟩)
  go_ret2
  exact ⟨rfl, m, rfl⟩
theorem odd_ints {w : World} {v : Value} {zs : List Int} (h : IntsAt w .i64 v zs) : Calls Tryd.prog 47 #[v] w (Quiet (.tuple #[.bool (oddR zs).1, .int .i64 (oddR zs).2]) w) := by
  have hk := check_ints h
  unfold oddR
  by_cases h0 : check zs ≠ 0
  · rw [if_pos h0]; exact odd_err v _ h0 w hk
  · rw [if_neg h0]
    have h0' : check zs = 0 := Decidable.not_not.1 h0
    obtain ⟨b, off, cap, rfl, hc⟩ := at_ints h (check_ok h0').1
    exact odd_any b off _ cap zs rfl h hc h0'
theorem rodd_ints {w : World} {v : Value} {zs : List Int} (h : IntsAt w .i64 v zs) : Calls Tryd.prog 48 #[v] w (Quiet (.tuple #[.bool (oddR zs).1, .int .i64 (oddR zs).2]) w) := by
  have hk := rcheck_ints h
  unfold oddR
  by_cases h0 : check zs ≠ 0
  · rw [if_pos h0]; exact rodd_err v _ h0 w hk
  · rw [if_neg h0]
    have h0' : check zs = 0 := Decidable.not_not.1 h0
    obtain ⟨b, off, cap, rfl, hc⟩ := at_ints h (check_ok h0').1
    exact rodd_any b off _ cap zs rfl h hc h0'

/-! The order, by the reference. -/
set_option maxHeartbeats 1000000 in
theorem rorder_any {w : World} (a : Option Addr) (cap : Nat) (zs : List Int) (hv : IntsAt w .i64 (.slice a zs.length cap) zs) (hok : check zs = 0) : Calls Tryd.prog 46 #[.slice a zs.length cap] w (NumPost (ord zs) 0 w) := by
  obtain ⟨h1, h5, hr, _⟩ := check_ok hok
  have HR : Hid (Fits zs.length zs) := Lib.hid hr
  have HV := Lib.hid hv
  have HO := Lib.hid hok
  clear hv hr hok
  generalize hn : zs.length = n at *
  have HN := Lib.hid hn
  clear hn
  go_enter Tryd.func46, Tryd.ntmps46
  go_wp2_with fail
  refine (rcheck_ints HV.out).mono ?_
  rintro e w' ⟨rfl, m0, rfl⟩
  rw [HO.out]
  go_wp2_with fail
  go_loopw [5, 6] (fun b t wr => ∃ j : Nat, j < 6 ∧ t = .int .i64 ((j + 1 : Nat) : Int) ∧ IntsAt wr .i64 b (pw zs j) ∧ Below w.heap.size w wr ∧ ∀ i, i < j → pw zs i ≠ ids n) (fun _ t _ => 7 - (intOf t).toNat)
  case atStart => exact ⟨0, by omega, rfl, HV.out.drewN m0, below_drewN (Below.refl _ _) m0, fun i hi => absurd hi (by omega)⟩
  case round =>
    obtain ⟨j, hj6, rfl, hb, hbl, hm⟩ := hrel
    have HBI := Lib.hid hb
    have HBL := Lib.hid hbl
    have HM := Lib.hid hm
    clear hb hbl hm
    go_wp2_with fail
    refine (one_any n h5 _).mono ?_
    rintro e w1 ⟨v1, rfl, hb1, hi1⟩
    have HB1 := Lib.hid (HBL.out.trans (hb1.mono HBL.out.size))
    have HBI1 := Lib.hid (HBI.out.below hb1)
    have HI1 := Lib.hid hi1
    clear hb1 hi1
    by_cases he : pw zs j = ids n
    · have HE := Lib.hid he
      clear he
      go_wp2_with fail
      refine (same_yes HBI1.out HI1.out HE.out).mono ?_
      rintro e w2 ⟨rfl, m, rfl⟩
      go_wp2
      go_ret2
      refine ⟨ret_two ?_ rfl, HB1.out.trans (below_drewN (Below.refl _ _) _)⟩
      have := ord_of (l := zs) hj6 (by rw [HN.out]; exact HE.out) (by rw [HN.out]; exact HM.out)
      omega
    · have HE := Lib.hid he
      have hlt : j < 5 := far_lt HO.out (by rw [HN.out]; exact HM.out) (by rw [HN.out]; exact he)
      clear he
      go_wp2_with fail
      refine (same_no HBI1.out HI1.out HE.out).mono ?_
      rintro e w2 ⟨rfl, m, rfl⟩
      go_wp2_with fail
      refine (times_ints (zs := zs) (vs := pw zs j) ((HV.out.below HB1.out).drewN m) (HBI1.out.drewN m) (pw_length zs j) (by rw [HN.out]; exact h1) (by rw [HN.out]; exact h5) (by rw [HN.out]; have := pw_fits (a := zs) (by rw [HN.out]; exact HR.out) j; rwa [HN.out] at this)).mono ?_
      rintro e w3 ⟨v3, rfl, hb3, hi3⟩
      have HB3 := Lib.hid hb3
      have HI3 := Lib.hid hi3
      clear hb3 hi3
      go_wp2
      exact ⟨⟨j + 1, by omega, by go_num, HI3.out, (HB1.out.trans (below_drewN (Below.refl _ _) m)).trans (HB3.out.mono (by have := HB1.out.size; simpa using this)), less_succ HM.out HE.out⟩, by simp [intOf]; omega⟩
theorem order_err (v : Value) (c : Int) (hc0 : c ≠ 0) (w : World) (h : Calls Tryd.prog 49 #[v] w fun e w' => e = .returned (.int .i64 c) ∧ w = w') :
    Calls Tryd.prog 45 #[v] w (NumPost 0 c w) := by
  have HI := Lib.hid h
  clear h
  have hb : (c != 0) = true := by simpa using hc0
  go_enter Tryd.func45, Tryd.ntmps45
  go_wp2_with (go_at_call 49; refine (HI.out).mono ?_; rintro e w' ⟨rfl, rfl⟩)
  go_ret2
  exact ⟨rfl, Below.refl _ _⟩
theorem rorder_err (v : Value) (c : Int) (hc0 : c ≠ 0) (w : World) (h : Calls Tryd.prog 50 #[v] w (Quiet (.int .i64 c) w)) :
    Calls Tryd.prog 46 #[v] w (NumPost 0 c w) := by
  have HI := Lib.hid h
  clear h
  have hb : (c != 0) = true := by simpa using hc0
  go_enter Tryd.func46, Tryd.ntmps46
  go_wp2_with (go_at_call 50; refine (HI.out).mono ?_; rintro e w' ⟨rfl, m, rfl⟩)
  go_ret2
  exact ⟨rfl, below_drewN (Below.refl _ _) m⟩
def ordR (zs : List Int) : Int × Int := if check zs ≠ 0 then (0, check zs) else (ord zs, 0)
theorem order_ints {w : World} {v : Value} {zs : List Int} (h : IntsAt w .i64 v zs) : Calls Tryd.prog 45 #[v] w (NumPost (ordR zs).1 (ordR zs).2 w) := by
  have hk := check_ints h
  unfold ordR
  by_cases h0 : check zs ≠ 0
  · rw [if_pos h0]; exact order_err v _ h0 w hk
  · rw [if_neg h0]
    have h0' : check zs = 0 := Decidable.not_not.1 h0
    have h' := h
    obtain ⟨a, cap, rfl, _⟩ := h'
    exact order_any a cap zs h h0'
theorem rorder_ints {w : World} {v : Value} {zs : List Int} (h : IntsAt w .i64 v zs) : Calls Tryd.prog 46 #[v] w (NumPost (ordR zs).1 (ordR zs).2 w) := by
  have hk := rcheck_ints h
  unfold ordR
  by_cases h0 : check zs ≠ 0
  · rw [if_pos h0]; exact rorder_err v _ h0 w hk
  · rw [if_neg h0]
    have h0' : check zs = 0 := Decidable.not_not.1 h0
    have h' := h
    obtain ⟨a, cap, rfl, _⟩ := h'
    exact rorder_any a cap zs h h0'
end Go.Proofs.YtpdlnijdcgcfbaaDoor.Perm
