/-
  PermutationActs answers true.
-/
import Derived.Test.YtlineonmpbdkgaaDoorEvRoPermRef
import Derived.Test.YtlineonmpbdkgaaDoorEvRoSeat
namespace Go.Proofs.YtlineonmpbdkgaaDoor.Perm
open Go Go.RowKit Go.Perm Go.Law
open Go.Proofs.YtlineonmpbdkgaaDoor.Col (ret_int ret_bool ret_two bit_yes bit_no i64_or_nat i64_and_nat wrap_pow pow_small)

theorem or_any (s p : Nat) (hs : s < 32) (hp : p < 5) : bits BinOp.or IntKind.i64 (s : Int) (wrap64 (2 ^ p)) = ((s ||| 2 ^ p : Nat) : Int) := by
  rw [wrap_pow p hp, i64_or_nat _ _ (by omega) (pow_small p hp)]
theorem lt32 {a n : Nat} (h : a < 2 ^ n) (hn : n ≤ 5) : a < 32 := Nat.lt_of_lt_of_le h (Nat.pow_le_pow_right (by omega) hn)

set_option maxHeartbeats 800000 in
theorem set_any (b off len cap : Nat) (zs : List Int) (S : Nat) (hz : zs.length = len) (hok : check zs = 0) (hcap : len ≤ cap) (hS : S < 2 ^ len) (w : World) (hc : At w b off zs) :
    Calls Tryd.prog 32 #[.slice (some ⟨b, off, none⟩) len cap, .int .i64 S] w fun e w' => e = .returned (.tuple #[.int .i64 (img S zs 0 0), .int .i64 0]) ∧ w = w' := by
  obtain ⟨h1, h5, hr, _⟩ := check_ok hok
  rw [hz] at h1 h5 hr
  have HR := Lib.hid hr
  clear hr
  have HC := Lib.hid hc
  clear hc
  have HO := Lib.hid hok
  clear hok
  have hS32 : S < 32 := lt32 hS h5
  have HZ := Lib.hid hz
  clear hz
  have hp1 : (S : Int) < 2 ^ len := by exact_mod_cast hS
  have hp2 : (2 : Int) ^ len ≤ 32 := by have := Nat.pow_le_pow_right (n := 2) (by omega) h5; exact_mod_cast this
  have hp0 : 0 ≤ (2 : Int) ^ len := by omega
  go_enter Tryd.func32, Tryd.ntmps32
  go_wp2_with (go_at_call 58; refine (check_any _ _ _ _ zs HZ.out (by omega) (by omega) hcap _ HC.out).mono ?_; rintro e w' ⟨rfl, rfl⟩; rw [HO.out])
  go_loop [7, 26] (fun t i => ∃ k o : Nat, k ≤ len ∧ o < 2 ^ len ∧ i = .int .i64 k ∧ t = .int .i64 o ∧ img S zs 0 0 = img S (zs.drop k) k o) (fun _ i => len - (intOf i).toNat)
  case atStart => exact ⟨0, 0, Nat.zero_le _, Nat.pow_pos (by omega), rfl, rfl, rfl⟩
  case round =>
    obtain ⟨k, o, hk, ho, rfl, rfl, hsc⟩ := hrel
    have HS := Lib.hid hsc
    clear hsc
    have hz := HZ.out
    by_cases hlt : k < len
    · have hcell := HC.out k (by omega)
      have HD := Lib.hid (drop_cons (l := zs) (k := k) (by omega))
      have hx := HR.out (zs.getD k 0) (getD_mem (by omega))
      generalize zs.getD k 0 = x at *
      obtain ⟨hx0, hx1⟩ := hx
      obtain ⟨q, rfl⟩ := Int.eq_ofNat_of_zero_le hx0
      have ho32 : o < 32 := lt32 ho h5
      clear hz
      go_wp2
      · have hb : (bits BinOp.and IntKind.i64 (↑S) (wrap64 (2 ^ k)) != 0) = true := by assumption
        have hyes := bit_yes S k hS32 (by omega) hb
        go_round
        case rel => exact ⟨k + 1, o ||| 2 ^ q, by omega, or_lt o q len ho (by omega), by go_num, by rw [or_any o q ho32 (by omega)], by rw [HS.out, HD.out, img_yes hyes]; simp⟩
        case measure => simp [intOf]; omega
      · have hb : (bits BinOp.and IntKind.i64 (↑S) (wrap64 (2 ^ k)) != 0) = false := by assumption
        have hno := bit_no S k hS32 (by omega) hb
        go_round
        case rel => exact ⟨k + 1, o, by omega, ho, by go_num, rfl, by rw [HS.out, HD.out, img_no hno]⟩
        case measure => simp [intOf]; omega
    · clear hz
      go_wp2
      go_ret2
      have hz := HZ.out
      have hk' : k = zs.length := by omega
      exact ⟨ret_two (by rw [HS.out, hk', List.drop_length]; rfl) rfl, rfl⟩

theorem shr_bit (S k : Nat) (hS : S < 32) : bits BinOp.and IntKind.i64 ((S : Int) / 2 ^ k) 1 = ((S / 2 ^ k % 2 : Nat) : Int) := by
  have h : (S : Int) / 2 ^ k = ((S / 2 ^ k : Nat) : Int) := by push_cast; rfl
  have hd : S / 2 ^ k ≤ S := Nat.div_le_self _ _
  rw [h, show (1 : Int) = ((1 : Nat) : Int) from rfl, i64_and_nat _ _ (by omega) (by omega), Nat.and_one_is_mod]
set_option maxHeartbeats 800000 in
theorem image_any (b off len cap : Nat) (zs : List Int) (S : Nat) (hz : zs.length = len) (hok : check zs = 0) (hcap : len ≤ cap) (hS : S < 2 ^ len) (w : World) (hc : At w b off zs) :
    Calls Tryd.prog 70 #[.slice (some ⟨b, off, none⟩) len cap, .int .i64 S] w fun e w' => e = .returned (.int .i64 (img S zs 0 0)) ∧ w = w' := by
  obtain ⟨h1, h5, hr, _⟩ := check_ok hok
  rw [hz] at h1 h5 hr
  have HR := Lib.hid hr
  clear hr
  have HC := Lib.hid hc
  clear hc
  have HO := Lib.hid hok
  clear hok
  have hS32 : S < 32 := lt32 hS h5
  have HZ := Lib.hid hz
  clear hz
  go_enter Tryd.func70, Tryd.ntmps70
  go_wp2
  go_loop [5, 6] (fun t i => ∃ k o : Nat, k ≤ len ∧ o < 2 ^ len ∧ i = .int .i64 k ∧ t = .int .i64 o ∧ img S zs 0 0 = img S (zs.drop k) k o) (fun _ i => len - (intOf i).toNat)
  case atStart => exact ⟨0, 0, Nat.zero_le _, Nat.pow_pos (by omega), rfl, rfl, rfl⟩
  case round =>
    obtain ⟨k, o, hk, ho, rfl, rfl, hsc⟩ := hrel
    have HS := Lib.hid hsc
    clear hsc
    have hz := HZ.out
    by_cases hlt : k < len
    · have hcell := HC.out k (by omega)
      have HD := Lib.hid (drop_cons (l := zs) (k := k) (by omega))
      have hx := HR.out (zs.getD k 0) (getD_mem (by omega))
      generalize zs.getD k 0 = x at *
      obtain ⟨hx0, hx1⟩ := hx
      obtain ⟨q, rfl⟩ := Int.eq_ofNat_of_zero_le hx0
      have ho32 : o < 32 := lt32 ho h5
      clear hz
      go_wp2
      · have hb : (bits BinOp.and IntKind.i64 (↑S / 2 ^ k) 1 == 1) = true := by assumption
        rw [shr_bit S k hS32] at hb
        have hyes : S / 2 ^ k % 2 = 1 := by have := eq_of_beq hb; omega
        go_round
        case rel => exact ⟨k + 1, o ||| 2 ^ q, by omega, or_lt o q len ho (by omega), by go_num, by rw [or_any o q ho32 (by omega)], by rw [HS.out, HD.out, img_yes hyes]; simp⟩
        case measure => simp [intOf]; omega
      · have hb : (bits BinOp.and IntKind.i64 (↑S / 2 ^ k) 1 == 1) = false := by assumption
        rw [shr_bit S k hS32] at hb
        have hno : S / 2 ^ k % 2 = 0 := by
          have := beq_eq_false_iff_ne.1 hb
          omega
        go_round
        case rel => exact ⟨k + 1, o, by omega, ho, by go_num, rfl, by rw [HS.out, HD.out, img_no hno]⟩
        case measure => simp [intOf]; omega
    · clear hz
      go_wp2
      go_ret
      have hz := HZ.out
      have hk' : k = zs.length := by omega
      exact ⟨ret_int (by rw [HS.out, hk', List.drop_length]; rfl), rfl⟩

/-! A list that is no permutation, or a set that is none of these processes. -/
theorem set_err (v : Value) (c : Int) (hc0 : c ≠ 0) (S : Int) (w : World) (h : Calls Tryd.prog 58 #[v] w fun e w' => e = .returned (.int .i64 c) ∧ w = w') :
    Calls Tryd.prog 32 #[v, .int .i64 S] w fun e w' => e = .returned (.tuple #[.int .i64 0, .int .i64 c]) ∧ w = w' := by
  have HI := Lib.hid h
  clear h
  have hb : (c != 0) = true := by simpa using hc0
  go_enter Tryd.func32, Tryd.ntmps32
  go_wp2_with (go_at_call 58; refine (HI.out).mono ?_; rintro e w' ⟨rfl, rfl⟩)
  go_ret2
  exact ⟨rfl, rfl⟩
theorem set_range (a : Option Addr) (len cap : Nat) (h5 : len ≤ 5) (S : Int) (hS : S < 0 ∨ 2 ^ len ≤ S) (w : World) (h : Calls Tryd.prog 58 #[.slice a len cap] w fun e w' => e = .returned (.int .i64 0) ∧ w = w') :
    Calls Tryd.prog 32 #[.slice a len cap, .int .i64 S] w fun e w' => e = .returned (.tuple #[.int .i64 0, .int .i64 2]) ∧ w = w' := by
  have HI := Lib.hid h
  clear h
  have hp2 : (2 : Int) ^ len ≤ 32 := by have := Nat.pow_le_pow_right (n := 2) (by omega) h5; exact_mod_cast this
  have hp0 : 0 ≤ (2 : Int) ^ len := by have := Nat.zero_le (2 ^ len); exact_mod_cast this
  rcases hS with hS | hS
  · go_enter Tryd.func32, Tryd.ntmps32
    go_wp2_with (go_at_call 58; refine (HI.out).mono ?_; rintro e w' ⟨rfl, rfl⟩)
    go_ret2
    exact ⟨rfl, rfl⟩
  · have h0 : ¬ S < 0 := by omega
    go_enter Tryd.func32, Tryd.ntmps32
    go_wp2_with (go_at_call 58; refine (HI.out).mono ?_; rintro e w' ⟨rfl, rfl⟩)
    go_ret2
    exact ⟨rfl, rfl⟩
end Go.Proofs.YtlineonmpbdkgaaDoor.Perm
namespace Go.Proofs.YtlineonmpbdkgaaDoor.Perm
open Go Go.Ev Go.RowKit Go.Perm Go.Law
open Go.Proofs.YtlineonmpbdkgaaDoor.Col (ret_int ret_bool ret_two)
open Go.Proofs.YtlineonmpbdkgaaDoor.Ev

theorem block_lt {w : World} {b : Nat} {o : Obj} (h : w.heap[b]? = some o) : b < w.heap.size := by
  by_cases hb : b < w.heap.size
  · exact hb
  · rw [Array.getElem?_eq_none (by omega)] at h; cases h
theorem nil_ints (w : World) : IntsAt w .i64 (.slice none 0 0) [] := ⟨none, 0, rfl, Nat.le_refl _, by simp [maxLen], .inl rfl⟩
theorem _root_.Go.Law.IntsAt.below {w w' : World} {v : Value} {zs : List Int} (h : IntsAt w .i64 v zs) (hb : Below w.heap.size w w') : IntsAt w' .i64 v zs := by
  obtain ⟨a, cap, rfl, h1, h2, h0⟩ := h
  refine ⟨a, cap, rfl, h1, h2, h0.imp id ?_⟩
  rintro ⟨b, off, rfl, hlt, hc⟩
  exact ⟨b, off, rfl, Nat.lt_of_lt_of_le hlt hb.size, fun j hj => by rw [hb.cell hlt]; exact hc j hj⟩
theorem _root_.Go.Law.IntsAt.drewN {w : World} {v : Value} {zs : List Int} (h : IntsAt w .i64 v zs) (m : Nat) : IntsAt (w.drewN m) .i64 v zs := h.below (below_drewN (Below.refl _ _) m)

/-! The four calls, at whatever can be read. -/
theorem check_ints {w : World} {v : Value} {zs : List Int} (h : IntsAt w .i64 v zs) : Calls Tryd.prog 58 #[v] w fun e w' => e = .returned (.int .i64 (check zs)) ∧ w = w' := by
  obtain ⟨a, cap, rfl, h1, h2, h0⟩ := h
  by_cases hl : zs.length < 1 ∨ 5 < zs.length
  · rw [check_len hl]; exact check_bad _ _ _ hl _
  · rcases h0 with rfl | ⟨b, off, rfl, hlt, hc⟩
    · simp at hl
    · exact check_any b off _ cap zs rfl (by omega) (by omega) h1 w hc
theorem rcheck_ints {w : World} {v : Value} {zs : List Int} (h : IntsAt w .i64 v zs) : Calls Tryd.prog 27 #[v] w (Quiet (.int .i64 (check zs)) w) := by
  obtain ⟨a, cap, rfl, h1, h2, h0⟩ := h
  by_cases hl : zs.length < 1 ∨ 5 < zs.length
  · rw [check_len hl]; exact rcheck_bad _ _ _ hl _
  · rcases h0 with rfl | ⟨b, off, rfl, hlt, hc⟩
    · simp at hl
    · exact rcheck_any b off _ cap zs rfl (by omega) (by omega) h1 w hc

def setR (zs : List Int) (S : Int) : Int × Int := if check zs ≠ 0 then (0, check zs) else if S < 0 ∨ 2 ^ zs.length ≤ S then (0, 2) else (img S.toNat zs 0 0, 0)
def vecR (zs vs : List Int) : List Int × Int := if check zs ≠ 0 then ([], check zs) else if vs.length ≠ zs.length then ([], 15) else (mv zs vs zs.length, 0)
theorem nat_lt_pow {S n : Nat} (h : ¬ (2 : Int) ^ n ≤ (S : Int)) : S < 2 ^ n := by
  have : (S : Int) < ((2 ^ n : Nat) : Int) := by push_cast; omega
  exact_mod_cast this
theorem set_ints {w : World} {v : Value} {zs : List Int} (h : IntsAt w .i64 v zs) (S : Int) : Calls Tryd.prog 32 #[v, .int .i64 S] w fun e w' => e = .returned (.tuple #[.int .i64 (setR zs S).1, .int .i64 (setR zs S).2]) ∧ w = w' := by
  have hk := check_ints h
  unfold setR
  by_cases h0 : check zs ≠ 0
  · rw [if_pos h0]; exact set_err v _ h0 S w hk
  · rw [if_neg h0]
    have h0' : check zs = 0 := Decidable.not_not.1 h0
    obtain ⟨g1, g5, _, _⟩ := check_ok h0'
    rw [h0'] at hk
    obtain ⟨a, cap, rfl, h1, h2, hc⟩ := h
    by_cases hS : S < 0 ∨ 2 ^ zs.length ≤ S
    · rw [if_pos hS]; exact set_range a _ cap g5 S hS w hk
    · rw [if_neg hS]
      obtain ⟨s, rfl⟩ := Int.eq_ofNat_of_zero_le (show 0 ≤ S by omega)
      rcases hc with rfl | ⟨b, off, rfl, hlt, hc⟩
      · simp at g1
      · exact set_any b off _ cap zs s rfl h0' h1 (nat_lt_pow (by omega)) w hc
end Go.Proofs.YtlineonmpbdkgaaDoor.Perm
