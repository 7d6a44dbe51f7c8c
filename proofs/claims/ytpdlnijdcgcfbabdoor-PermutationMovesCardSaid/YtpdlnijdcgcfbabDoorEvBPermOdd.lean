/-
  Inversions: the program and the reference.
-/
import Derived.Test.YtpdlnijdcgcfbabDoorEvBPermOrd
import Derived.Test.YtpdlnijdcgcfbabDoorEvBPermInv
namespace Go.Proofs.YtpdlnijdcgcfbabDoor.Perm
open Go Go.RowKit Go.Perm Go.Law
open Go.Proofs.YtpdlnijdcgcfbabDoor.Col (ret_int ret_bool ret_two)

set_option maxHeartbeats 1000000 in
theorem odd_any {w : World} (b off len cap : Nat) (zs : List Int) (hz : zs.length = len) (hv : IntsAt w .i64 (.slice (some ⟨b, off, none⟩) len cap) zs) (hc : At w b off zs) (hok : check zs = 0) : Calls Tryd.prog 13 #[.slice (some ⟨b, off, none⟩) len cap] w (Quiet (.tuple #[.bool (outer zs len), .int .i64 0]) w) := by
  obtain ⟨h1, h5, hr, _⟩ := check_ok hok
  rw [hz] at h1 h5
  have HZ := Lib.hid hz
  have HV := Lib.hid hv
  have HC := Lib.hid hc
  have HO := Lib.hid hok
  clear hv hr hok hz hc
  go_enter Tryd.func13, Tryd.ntmps13
  go_wp2_with (go_at_call 30; refine (check_ints HV.out).mono ?_; rintro e w' ⟨rfl, rfl⟩; rw [HO.out])
  go_loopw [5, 15] (fun o i wr => ∃ k m : Nat, k ≤ len ∧ i = .int .i64 k ∧ o = .bool (outer zs k) ∧ wr = w.drewN m) (fun _ i _ => len - (intOf i).toNat)
  case atStart => exact ⟨0, 0, Nat.zero_le _, rfl, rfl, rfl⟩
  case round =>
    obtain ⟨k, m, hk, rfl, rfl, rfl⟩ := hrel
    by_cases hlt : k < len
    · have HK := Lib.hid (show outer zs (k + 1) = inner zs k k (outer zs k) from rfl)
      have hcell := HC.out k (by have := HZ.out; omega)
      have HX0 : Hid (zs.getD k 0 = zs.getD k 0) := Lib.hid rfl
      generalize hx : zs.getD k 0 = x at hcell
      generalize ho : outer zs k = o0 at *
      have HX := Lib.hid hx
      clear hx HX0 ho
      go_wp2
      go_loopw [5, 19] (fun o i wr => ∃ p m2 : Nat, p ≤ k ∧ i = .int .i64 p ∧ o = .bool (inner zs k p o0) ∧ wr = w.drewN m2) (fun _ i _ => k - (intOf i).toNat)
      case atStart => exact ⟨0, m, Nat.zero_le _, rfl, rfl, rfl⟩
      case round =>
        obtain ⟨p, m2, hp, rfl, rfl, rfl⟩ := hrel
        by_cases hpk : p < k
        · have hcell1 := HC.out p (by have := HZ.out; omega)
          have HS := Lib.hid (show inner zs k (p + 1) o0 = if zs.getD k 0 < zs.getD p 0 then !(inner zs k p o0) else inner zs k p o0 from rfl)
          generalize hy : zs.getD p 0 = y at *
          have HY := Lib.hid hy
          clear hy
          rw [HX.out] at HS
          generalize inner zs k p o0 = o1 at *
          by_cases hxy : x < y
          · have hd : decide (x < y) = true := by simpa using hxy
            go_wp2
            go_quiet (fail)
            go_wp2
            exact ⟨⟨p + 1, m2 + nq, by omega, by go_num, by rw [HS.out, if_pos hxy], rfl⟩, by simp [intOf]; omega⟩
          · have hd : decide (x < y) = false := by simpa using hxy
            go_wp2
            go_quiet (fail)
            go_wp2
            exact ⟨⟨p + 1, m2 + nq, by omega, by go_num, by rw [HS.out, if_neg (by omega)], rfl⟩, by simp [intOf]; omega⟩
        · go_wp2
          have hpk' : p = k := by omega
          subst hpk'
          exact ⟨⟨p + 1, m2, by omega, by go_num, by rw [HK.out], rfl⟩, by simp [intOf]; omega⟩
    · go_wp2
      go_ret2
      have hk' : k = len := by omega
      subst hk'
      exact ⟨rfl, m, rfl⟩
def oddR (zs : List Int) : Bool × Int := if check zs ≠ 0 then (false, check zs) else (outer zs zs.length, 0)
theorem odd_err (v : Value) (c : Int) (hc0 : c ≠ 0) (w : World) (h : Calls Tryd.prog 30 #[v] w fun e w' => e = .returned (.int .i64 c) ∧ w = w') :
    Calls Tryd.prog 13 #[v] w (Quiet (.tuple #[.bool false, .int .i64 c]) w) := by
  have HI := Lib.hid h
  clear h
  have hb : (c != 0) = true := by simpa using hc0
  go_enter Tryd.func13, Tryd.ntmps13
  go_wp2_with (go_at_call 30; refine (HI.out).mono ?_; rintro e w' ⟨rfl, rfl⟩)
  go_ret2
  exact ⟨rfl, 0, rfl⟩
theorem odd_ints {w : World} {v : Value} {zs : List Int} (h : IntsAt w .i64 v zs) : Calls Tryd.prog 13 #[v] w (Quiet (.tuple #[.bool (oddR zs).1, .int .i64 (oddR zs).2]) w) := by
  have hk := check_ints h
  unfold oddR
  by_cases h0 : check zs ≠ 0
  · rw [if_pos h0]; exact odd_err v _ h0 w hk
  · rw [if_neg h0]
    have h0' : check zs = 0 := Decidable.not_not.1 h0
    obtain ⟨b, off, cap, rfl, hc⟩ := at_ints h (check_ok h0').1
    exact odd_any b off _ cap zs rfl h hc h0'
/-! The order, by the reference. -/
theorem order_err (v : Value) (c : Int) (hc0 : c ≠ 0) (w : World) (h : Calls Tryd.prog 30 #[v] w fun e w' => e = .returned (.int .i64 c) ∧ w = w') :
    Calls Tryd.prog 27 #[v] w (NumPost 0 c w) := by
  have HI := Lib.hid h
  clear h
  have hb : (c != 0) = true := by simpa using hc0
  go_enter Tryd.func27, Tryd.ntmps27
  go_wp2_with (go_at_call 30; refine (HI.out).mono ?_; rintro e w' ⟨rfl, rfl⟩)
  go_ret2
  exact ⟨rfl, Below.refl _ _⟩
def ordR (zs : List Int) : Int × Int := if check zs ≠ 0 then (0, check zs) else (ord zs, 0)
theorem order_ints {w : World} {v : Value} {zs : List Int} (h : IntsAt w .i64 v zs) : Calls Tryd.prog 27 #[v] w (NumPost (ordR zs).1 (ordR zs).2 w) := by
  have hk := check_ints h
  unfold ordR
  by_cases h0 : check zs ≠ 0
  · rw [if_pos h0]; exact order_err v _ h0 w hk
  · rw [if_neg h0]
    have h0' : check zs = 0 := Decidable.not_not.1 h0
    have h' := h
    obtain ⟨a, cap, rfl, _⟩ := h'
    exact order_any a cap zs h h0'
end Go.Proofs.YtpdlnijdcgcfbabDoor.Perm
