/-
  What the functions of layer 1's reference give, that ProcsetCollects calls: powers, members, sets with a member.
-/
import Derived.Test.YtpdlnijdcgcfbabDoorProg
import Derived.Test.YtpdlnijdcgcfbabDoorEvColMath
import Derived.WalkKit
import Derived.IntWalk
import Derived.Lib.Hide
import Derived.Laws.BitsAllLaws
import Derived.Laws.BitsLemmas
namespace Go.Proofs.YtpdlnijdcgcfbabDoor.Col
open Go Go.RowKit Go.Col

theorem ret_int {k : IntKind} {a b : Int} (h : a = b) : Ending.returned (.int k a) = .returned (.int k b) := by rw [h]
theorem ret_bool {a b : Bool} (h : a = b) : Ending.returned (.bool a) = .returned (.bool b) := by rw [h]
theorem ret_two {k l : IntKind} {a b c d : Int} (h : a = b) (h' : c = d) : Ending.returned (.tuple #[.int k a, .int l c]) = .returned (.tuple #[.int k b, .int l d]) := by rw [h, h']
theorem ofInt_i64 (a : Nat) (ha : a < 9223372036854775808) : (BitVec.ofInt 64 (a : Int)).toNat = a := by
  rw [BitVec.ofInt_natCast, BitVec.toNat_ofNat]; exact Nat.mod_eq_of_lt (by omega)
theorem i64_and_nat (a b : Nat) (ha : a < 9223372036854775808) (hb : b < 9223372036854775808) : bits .and .i64 (a : Int) (b : Int) = ((a &&& b : Nat) : Int) := by
  have hx : a &&& b < 2 ^ 63 := Nat.and_lt_two_pow _ (by omega)
  show IntKind.i64.wrap ((BitVec.ofInt 64 (a : Int) &&& BitVec.ofInt 64 (b : Int)).toNat : Int) = _
  rw [BitVec.toNat_and, ofInt_i64 a ha, ofInt_i64 b hb, IntKind.wrap_i64]
  omega
theorem i64_or_nat (a b : Nat) (ha : a < 9223372036854775808) (hb : b < 9223372036854775808) : bits .or .i64 (a : Int) (b : Int) = ((a ||| b : Nat) : Int) := by
  have hx : a ||| b < 2 ^ 63 := Nat.or_lt_two_pow (by omega) (by omega)
  show IntKind.i64.wrap ((BitVec.ofInt 64 (a : Int) ||| BitVec.ofInt 64 (b : Int)).toNat : Int) = _
  rw [BitVec.toNat_or, ofInt_i64 a ha, ofInt_i64 b hb, IntKind.wrap_i64]
  omega
theorem wrap_pow : ∀ p, p < 5 → wrap64 ((2 : Int) ^ p) = ((2 ^ p : Nat) : Int) := by decide +kernel
theorem pow_small (p : Nat) (hp : p < 5) : 2 ^ p < 9223372036854775808 := Nat.lt_of_lt_of_le (Nat.pow_lt_pow_right (by omega) hp) (by decide)
theorem bit_and (s p : Nat) (hs : s < 32) (hp : p < 5) : bits BinOp.and IntKind.i64 (s : Int) (wrap64 (2 ^ p)) = ((s &&& 2 ^ p : Nat) : Int) := by
  rw [wrap_pow p hp, i64_and_nat _ _ (by omega) (pow_small p hp)]
theorem bit_yes (s p : Nat) (hs : s < 32) (hp : p < 5) (h : (bits BinOp.and IntKind.i64 (s : Int) (wrap64 (2 ^ p)) != 0) = true) : s / 2 ^ p % 2 = 1 := by
  rw [bit_and s p hs hp] at h
  have := bits_and p hp s hs
  simp only [bne_iff_ne, ne_eq, Int.natCast_eq_zero] at h
  have h2 : ¬ s / 2 ^ p % 2 = 0 := fun h0 => h (this.2 h0)
  omega
theorem bit_no (s p : Nat) (hs : s < 32) (hp : p < 5) (h : (bits BinOp.and IntKind.i64 (s : Int) (wrap64 (2 ^ p)) != 0) = false) : s / 2 ^ p % 2 = 0 := by
  rw [bit_and s p hs hp] at h
  simp only [bne_eq_false_iff_eq, Int.natCast_eq_zero] at h
  exact (bits_and p hp s hs).1 h
theorem bit_or (s p : Nat) (hs : s < 32) (hp : p < 5) (h : s / 2 ^ p % 2 = 0) : bits BinOp.or IntKind.i64 (s : Int) (wrap64 (2 ^ p)) = ((s + 2 ^ p : Nat) : Int) := by
  rw [wrap_pow p hp, i64_or_nat _ _ (by omega) (pow_small p hp), bits_or p hp s hs h]
/-! The empty list. -/
/-! A wrong number of processes. -/
end Go.Proofs.YtpdlnijdcgcfbabDoor.Col
