/-
  What the functions of layer 1's reference give, that ProcsetCollects calls: powers, members, sets with a member.
-/
import GoSem.Step
import Derived.Test.YtlineonmpbdkgaaDoorProg
import Derived.WalkKit
import Derived.IntWalk
import Derived.Lib.Hide
import Derived.Laws.BitsAllLaws
import Derived.Laws.BitsLemmas
namespace Go.Col

/-- The set of a list, and the number of the error, from a set on. -/
def scan (n : Nat) : List Int → Nat → Int × Int
  | [], s => (s, 0)
  | x :: xs, s => if x < 0 ∨ (n : Int) ≤ x then (0, 2) else if s / 2 ^ x.toNat % 2 = 1 then (0, 7) else scan n xs (s + 2 ^ x.toNat)

theorem scan_range {n : Nat} {x : Int} {xs : List Int} {s : Nat} (h : x < 0 ∨ (n : Int) ≤ x) : scan n (x :: xs) s = (0, 2) := by rw [scan, if_pos h]
theorem scan_twice {n : Nat} {x : Int} {xs : List Int} {s : Nat} (h0 : 0 ≤ x) (h1 : x < n) (h : s / 2 ^ x.toNat % 2 = 1) : scan n (x :: xs) s = (0, 7) := by
  rw [scan, if_neg (by omega), if_pos h]
theorem scan_more {n : Nat} {x : Int} {xs : List Int} {s : Nat} (h0 : 0 ≤ x) (h1 : x < n) (h : s / 2 ^ x.toNat % 2 = 0) : scan n (x :: xs) s = scan n xs (s + 2 ^ x.toNat) := by
  rw [scan, if_neg (by omega), if_neg (by omega)]

theorem room : ∀ n, n < 6 → ∀ x, x < n → ∀ s, s < 2 ^ n → s / 2 ^ x % 2 = 0 → s + 2 ^ x < 2 ^ n := by
  intro n hn x hx s hs h
  have e : ∀ n < 6, ∀ x < n, ∀ s < 32, s < 2 ^ n → s / 2 ^ x % 2 = 0 → s + 2 ^ x < 2 ^ n := by decide +kernel
  refine e n hn x hx s (Nat.lt_of_lt_of_le hs ?_) hs h
  exact Nat.pow_le_pow_right (by omega) (show n ≤ 5 by omega)
theorem bits_or : ∀ x, x < 5 → ∀ s, s < 32 → s / 2 ^ x % 2 = 0 → s ||| 2 ^ x = s + 2 ^ x := by decide +kernel
theorem bits_and : ∀ x, x < 5 → ∀ s, s < 32 → (s &&& 2 ^ x = 0 ↔ s / 2 ^ x % 2 = 0) := by decide +kernel
end Go.Col
namespace Go.Proofs.YtlineonmpbdkgaaDoor.Col
open Go Go.RowKit Go.Col

theorem ret_int {k : IntKind} {a b : Int} (h : a = b) : Ending.returned (.int k a) = .returned (.int k b) := by rw [h]
theorem ret_bool {a b : Bool} (h : a = b) : Ending.returned (.bool a) = .returned (.bool b) := by rw [h]
set_option maxHeartbeats 400000 in
theorem power_any (n : Nat) (hn : n ≤ 5) (w : World) :
    Calls Tryd.prog 63 #[.int .i64 n] w fun e w' => e = .returned (.int .i64 ((2 ^ n : Nat) : Int)) ∧ w = w' := by
  go_enter Tryd.func63, Tryd.ntmps63
  go_wp2
  go_loop [3, 4] (fun o i => ∃ k : Nat, k ≤ n ∧ i = .int .i64 k ∧ o = .int .i64 ((2 ^ k : Nat) : Int)) (fun _ i => n - (intOf i).toNat)
  case atStart => exact ⟨0, Nat.zero_le _, rfl, rfl⟩
  case round =>
    obtain ⟨k, hk, rfl, rfl⟩ := hrel
    have hp : 2 ^ k ≤ 32 := Nat.le_trans (Nat.pow_le_pow_right (by omega) (show k ≤ 5 by omega)) (by decide)
    have hp1 : (2 : Int) ^ k ≤ 32 := by exact_mod_cast hp
    have hp0 : 0 ≤ (2 : Int) ^ k := by have := Nat.zero_le (2 ^ k); exact_mod_cast this
    clear hp
    by_cases hlt : k < n
    · go_wp2
      go_round
      case rel => exact ⟨k + 1, by omega, by go_num, by rw [Nat.pow_succ]; push_cast; rfl⟩
      case measure => simp [intOf]; omega
    · go_wp2
      go_ret
      have : k = n := by omega
      subst this
      exact ⟨rfl, rfl⟩
set_option maxHeartbeats 400000 in
theorem has_any (s p : Nat) (hs : s < 32) (hp : p < 5) (w : World) :
    Calls Tryd.prog 62 #[.int .i64 s, .int .i64 p] w fun e w' => e = .returned (.bool (s / 2 ^ p % 2 == 1)) ∧ w = w' := by
  have hq : 2 ^ p ≤ 16 := Nat.le_trans (Nat.pow_le_pow_right (by omega) (show p ≤ 4 by omega)) (by decide)
  have hq0 : 0 < 2 ^ p := Nat.pow_pos (by omega)
  generalize hg : 2 ^ p = q at *
  have HG := Lib.hid hg
  clear hg
  have hd : s / q < 32 := Nat.lt_of_le_of_lt (Nat.div_le_self _ _) hs
  have hd1 : (s : Int) / (q : Int) < 32 := by exact_mod_cast hd
  have hd0 : 0 ≤ (s : Int) / (q : Int) := by have := Nat.zero_le (s / q); exact_mod_cast this
  clear hd
  go_enter Tryd.func62, Tryd.ntmps62
  go_wp2_with (go_at_call 63; refine (power_any _ (by omega) _).mono ?_; rintro e w' ⟨rfl, rfl⟩; rw [HG.out])
  go_ret
  refine ⟨ret_bool ?_, rfl⟩
  show ((((s / q : Nat) : Int)) % 2 == 1) = _
  rw [Bool.eq_iff_iff]; simp only [beq_iff_eq]; omega

theorem checkN_ok (n : Int) (h1 : 1 ≤ n) (h2 : n ≤ 5) (w : World) : Calls Tryd.prog 60 #[.int .i64 n] w fun e w' => e = .returned (.int .i64 0) ∧ w = w' := by
  go_enter Tryd.func60, Tryd.ntmps60
  go_wp2
  go_ret
  exact ⟨rfl, rfl⟩
theorem checkN_bad (n : Int) (h : n < 1 ∨ 5 < n) (w : World) : Calls Tryd.prog 60 #[.int .i64 n] w fun e w' => e = .returned (.int .i64 1) ∧ w = w' := by
  rcases h with h | h
  · go_enter Tryd.func60, Tryd.ntmps60
    go_wp2
    go_ret
    exact ⟨rfl, rfl⟩
  · have h1 : ¬ n < 1 := by omega
    go_enter Tryd.func60, Tryd.ntmps60
    go_wp2
    go_ret
    exact ⟨rfl, rfl⟩
theorem ret_two {k l : IntKind} {a b c d : Int} (h : a = b) (h' : c = d) : Ending.returned (.tuple #[.int k a, .int l c]) = .returned (.tuple #[.int k b, .int l d]) := by rw [h, h']
theorem ofInt_i64 (a : Nat) (ha : a < 9223372036854775808) : (BitVec.ofInt 64 (a : Int)).toNat = a := by
  rw [BitVec.ofInt_natCast, BitVec.toNat_ofNat]; exact Nat.mod_eq_of_lt (by omega)
theorem i64_and_nat (a b : Nat) (ha : a < 9223372036854775808) (hb : b < 9223372036854775808) : bits .and .i64 (a : Int) (b : Int) = ((a &&& b : Nat) : Int) := by
  have hx : a &&& b < 2 ^ 63 := Nat.and_lt_two_pow _ (by omega)
  show IntKind.i64.wrap ((BitVec.ofInt 64 (a : Int) &&& BitVec.ofInt 64 (b : Int)).toNat : Int) = _
  rw [BitVec.toNat_and, ofInt_i64 a ha, ofInt_i64 b hb, IntKind.wrap_i64]
  omega
theorem i64_or_nat (a b : Nat) (ha : a < 9223372036854775808) (hb : b < 9223372036854775808) : bits .or .i64 (a : Int) (b : Int) = ((a ||| b : Nat) : Int) := by
  have hx : a ||| b < 2 ^ 63 := Nat.or_lt_two_pow (by omega) (by omega)
  show IntKind.i64.wrap ((BitVec.ofInt 64 (a : Int) ||| BitVec.ofInt 64 (b : Int)).toNat : Int) = _
  rw [BitVec.toNat_or, ofInt_i64 a ha, ofInt_i64 b hb, IntKind.wrap_i64]
  omega
theorem wrap_pow : ∀ p, p < 5 → wrap64 ((2 : Int) ^ p) = ((2 ^ p : Nat) : Int) := by decide +kernel
theorem pow_small (p : Nat) (hp : p < 5) : 2 ^ p < 9223372036854775808 := Nat.lt_of_lt_of_le (Nat.pow_lt_pow_right (by omega) hp) (by decide)
theorem bit_and (s p : Nat) (hs : s < 32) (hp : p < 5) : bits BinOp.and IntKind.i64 (s : Int) (wrap64 (2 ^ p)) = ((s &&& 2 ^ p : Nat) : Int) := by
  rw [wrap_pow p hp, i64_and_nat _ _ (by omega) (pow_small p hp)]
theorem bit_yes (s p : Nat) (hs : s < 32) (hp : p < 5) (h : (bits BinOp.and IntKind.i64 (s : Int) (wrap64 (2 ^ p)) != 0) = true) : s / 2 ^ p % 2 = 1 := by
  rw [bit_and s p hs hp] at h
  have := bits_and p hp s hs
  simp only [bne_iff_ne, ne_eq, Int.natCast_eq_zero] at h
  have h2 : ¬ s / 2 ^ p % 2 = 0 := fun h0 => h (this.2 h0)
  omega
theorem bit_no (s p : Nat) (hs : s < 32) (hp : p < 5) (h : (bits BinOp.and IntKind.i64 (s : Int) (wrap64 (2 ^ p)) != 0) = false) : s / 2 ^ p % 2 = 0 := by
  rw [bit_and s p hs hp] at h
  simp only [bne_eq_false_iff_eq, Int.natCast_eq_zero] at h
  exact (bits_and p hp s hs).1 h
theorem bit_or (s p : Nat) (hs : s < 32) (hp : p < 5) (h : s / 2 ^ p % 2 = 0) : bits BinOp.or IntKind.i64 (s : Int) (wrap64 (2 ^ p)) = ((s + 2 ^ p : Nat) : Int) := by
  rw [wrap_pow p hp, i64_or_nat _ _ (by omega) (pow_small p hp), bits_or p hp s hs h]
/-! The empty list. -/
/-! A wrong number of processes. -/
end Go.Proofs.YtlineonmpbdkgaaDoor.Col
