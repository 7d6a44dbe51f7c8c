/-
  The image of a set: the program's and the reference's.
-/
import Derived.Test.YtpdlnijdcgcfbabDoorEvBPermRef
namespace Go.Proofs.YtpdlnijdcgcfbabDoor.Perm
open Go Go.RowKit Go.Perm Go.Law
open Go.Proofs.YtpdlnijdcgcfbabDoor.Col (ret_int ret_bool ret_two bit_yes bit_no i64_or_nat i64_and_nat wrap_pow pow_small)

theorem or_any (s p : Nat) (hs : s < 32) (hp : p < 5) : bits BinOp.or IntKind.i64 (s : Int) (wrap64 (2 ^ p)) = ((s ||| 2 ^ p : Nat) : Int) := by
  rw [wrap_pow p hp, i64_or_nat _ _ (by omega) (pow_small p hp)]
theorem lt32 {a n : Nat} (h : a < 2 ^ n) (hn : n ≤ 5) : a < 32 := Nat.lt_of_lt_of_le h (Nat.pow_le_pow_right (by omega) hn)

set_option maxHeartbeats 800000 in
theorem set_any (b off len cap : Nat) (zs : List Int) (S : Nat) (hz : zs.length = len) (hok : check zs = 0) (hcap : len ≤ cap) (hS : S < 2 ^ len) (w : World) (hc : At w b off zs) :
    Calls Tryd.prog 14 #[.slice (some ⟨b, off, none⟩) len cap, .int .i64 S] w fun e w' => e = .returned (.tuple #[.int .i64 (img S zs 0 0), .int .i64 0]) ∧ w = w' := by
  obtain ⟨h1, h5, hr, _⟩ := check_ok hok
  rw [hz] at h1 h5 hr
  have HR := Lib.hid hr
  clear hr
  have HC := Lib.hid hc
  clear hc
  have HO := Lib.hid hok
  clear hok
  have hS32 : S < 32 := lt32 hS h5
  have HZ := Lib.hid hz
  clear hz
  have hp1 : (S : Int) < 2 ^ len := by exact_mod_cast hS
  have hp2 : (2 : Int) ^ len ≤ 32 := by have := Nat.pow_le_pow_right (n := 2) (by omega) h5; exact_mod_cast this
  have hp0 : 0 ≤ (2 : Int) ^ len := by omega
  go_enter Tryd.func14, Tryd.ntmps14
  go_wp2_with (go_at_call 30; refine (check_any _ _ _ _ zs HZ.out (by omega) (by omega) hcap _ HC.out).mono ?_; rintro e w' ⟨rfl, rfl⟩; rw [HO.out])
  go_loop [7, 26] (fun t i => ∃ k o : Nat, k ≤ len ∧ o < 2 ^ len ∧ i = .int .i64 k ∧ t = .int .i64 o ∧ img S zs 0 0 = img S (zs.drop k) k o) (fun _ i => len - (intOf i).toNat)
  case atStart => exact ⟨0, 0, Nat.zero_le _, Nat.pow_pos (by omega), rfl, rfl, rfl⟩
  case round =>
    obtain ⟨k, o, hk, ho, rfl, rfl, hsc⟩ := hrel
    have HS := Lib.hid hsc
    clear hsc
    have hz := HZ.out
    by_cases hlt : k < len
    · have hcell := HC.out k (by omega)
      have HD := Lib.hid (drop_cons (l := zs) (k := k) (by omega))
      have hx := HR.out (zs.getD k 0) (getD_mem (by omega))
      generalize zs.getD k 0 = x at *
      obtain ⟨hx0, hx1⟩ := hx
      obtain ⟨q, rfl⟩ := Int.eq_ofNat_of_zero_le hx0
      have ho32 : o < 32 := lt32 ho h5
      clear hz
      go_wp2
      · have hb : (bits BinOp.and IntKind.i64 (↑S) (wrap64 (2 ^ k)) != 0) = true := by assumption
        have hyes := bit_yes S k hS32 (by omega) hb
        go_round
        case rel => exact ⟨k + 1, o ||| 2 ^ q, by omega, or_lt o q len ho (by omega), by go_num, by rw [or_any o q ho32 (by omega)], by rw [HS.out, HD.out, img_yes hyes]; simp⟩
        case measure => simp [intOf]; omega
      · have hb : (bits BinOp.and IntKind.i64 (↑S) (wrap64 (2 ^ k)) != 0) = false := by assumption
        have hno := bit_no S k hS32 (by omega) hb
        go_round
        case rel => exact ⟨k + 1, o, by omega, ho, by go_num, rfl, by rw [HS.out, HD.out, img_no hno]⟩
        case measure => simp [intOf]; omega
    · clear hz
      go_wp2
      go_ret2
      have hz := HZ.out
      have hk' : k = zs.length := by omega
      exact ⟨ret_two (by rw [HS.out, hk', List.drop_length]; rfl) rfl, rfl⟩

theorem shr_bit (S k : Nat) (hS : S < 32) : bits BinOp.and IntKind.i64 ((S : Int) / 2 ^ k) 1 = ((S / 2 ^ k % 2 : Nat) : Int) := by
  have h : (S : Int) / 2 ^ k = ((S / 2 ^ k : Nat) : Int) := by push_cast; rfl
  have hd : S / 2 ^ k ≤ S := Nat.div_le_self _ _
  rw [h, show (1 : Int) = ((1 : Nat) : Int) from rfl, i64_and_nat _ _ (by omega) (by omega), Nat.and_one_is_mod]
/-! A list that is no permutation, or a set that is none of these processes. -/
theorem set_err (v : Value) (c : Int) (hc0 : c ≠ 0) (S : Int) (w : World) (h : Calls Tryd.prog 30 #[v] w fun e w' => e = .returned (.int .i64 c) ∧ w = w') :
    Calls Tryd.prog 14 #[v, .int .i64 S] w fun e w' => e = .returned (.tuple #[.int .i64 0, .int .i64 c]) ∧ w = w' := by
  have HI := Lib.hid h
  clear h
  have hb : (c != 0) = true := by simpa using hc0
  go_enter Tryd.func14, Tryd.ntmps14
  go_wp2_with (go_at_call 30; refine (HI.out).mono ?_; rintro e w' ⟨rfl, rfl⟩)
  go_ret2
  exact ⟨rfl, rfl⟩
theorem set_range (a : Option Addr) (len cap : Nat) (h5 : len ≤ 5) (S : Int) (hS : S < 0 ∨ 2 ^ len ≤ S) (w : World) (h : Calls Tryd.prog 30 #[.slice a len cap] w fun e w' => e = .returned (.int .i64 0) ∧ w = w') :
    Calls Tryd.prog 14 #[.slice a len cap, .int .i64 S] w fun e w' => e = .returned (.tuple #[.int .i64 0, .int .i64 2]) ∧ w = w' := by
  have HI := Lib.hid h
  clear h
  have hp2 : (2 : Int) ^ len ≤ 32 := by have := Nat.pow_le_pow_right (n := 2) (by omega) h5; exact_mod_cast this
  have hp0 : 0 ≤ (2 : Int) ^ len := by have := Nat.zero_le (2 ^ len); exact_mod_cast this
  rcases hS with hS | hS
  · go_enter Tryd.func14, Tryd.ntmps14
    go_wp2_with (go_at_call 30; refine (HI.out).mono ?_; rintro e w' ⟨rfl, rfl⟩)
    go_ret2
    exact ⟨rfl, rfl⟩
  · have h0 : ¬ S < 0 := by omega
    go_enter Tryd.func14, Tryd.ntmps14
    go_wp2_with (go_at_call 30; refine (HI.out).mono ?_; rintro e w' ⟨rfl, rfl⟩)
    go_ret2
    exact ⟨rfl, rfl⟩
end Go.Proofs.YtpdlnijdcgcfbabDoor.Perm
