/-
  The evaluator's arithmetic, comparisons, conversions, lengths, and the machine's.
-/
import Derived.Test.YtjggeombkbianaaEvH
import Derived.IntWalk
import Derived.Laws.Strings
namespace Go.Ev
open Go Go.RowKit

section
variable {P : Program} {B : Kp} {w0 w : World} {c : Ctx} {h : Hp}

theorem le_i64 (m : Nat) (hb : Nat.ble m 9223372036854775807 = true) : m ≤ 9223372036854775807 := Nat.le_of_ble_eq_true hb
theorem le_u64 (m : Nat) (hb : Nat.ble m 18446744073709551615 = true) : m ≤ 18446744073709551615 := Nat.le_of_ble_eq_true hb
theorem in_i64 (m : Nat) (hm : m ≤ 9223372036854775807) : IntKind.i64.wrap (Int.ofNat m) = Int.ofNat m := IntWalk.i64_in (Int.ofNat m) ⟨by simp only [Int.ofNat_eq_natCast]; omega, by simp only [Int.ofNat_eq_natCast]; omega⟩
theorem in_i64n (m : Nat) (hm : m ≤ 9223372036854775807) : IntKind.i64.wrap (Int.negSucc m) = Int.negSucc m := IntWalk.i64_in (Int.negSucc m) ⟨by omega, by omega⟩
theorem in_u64 (m : Nat) (hm : m ≤ 18446744073709551615) : IntKind.u64.wrap (Int.ofNat m) = Int.ofNat m := IntWalk.u64_in (Int.ofNat m) ⟨by simp only [Int.ofNat_eq_natCast]; omega, by simp only [Int.ofNat_eq_natCast]; omega⟩
theorem in_u8 (m : Nat) (hm : m ≤ 255) : IntKind.u8.wrap (Int.ofNat m) = Int.ofNat m := IntWalk.u8_in (Int.ofNat m) ⟨by simp only [Int.ofNat_eq_natCast]; omega, by simp only [Int.ofNat_eq_natCast]; omega⟩
theorem bif_eq {b : Bool} {x y z : Int} (h : b = true → x = z) (h' : y = z) : (bif b then x else y) = z := by
  cases b with
  | true => exact h rfl
  | false => exact h'
theorem fwrap_eq (k : IntKind) (n : Int) : fwrap k n = k.wrap n := by
  unfold fwrap
  split
  · exact bif_eq (fun h => (in_i64 _ (le_i64 _ h)).symm) rfl
  · exact bif_eq (fun h => (in_i64n _ (le_i64 _ h)).symm) rfl
  · exact bif_eq (fun h => (in_u64 _ (le_u64 _ h)).symm) rfl
  · exact bif_eq (fun h => (in_u8 _ (Nat.le_of_ble_eq_true h)).symm) rfl
  · rfl
theorem ieq_eq (a b : Int) : ieq a b = (a == b) := by
  cases a with
  | ofNat m => cases b with
    | ofNat n => simp only [ieq]; rw [Bool.eq_iff_iff]; simp; omega
    | negSucc n => simp only [ieq]; symm; rw [beq_eq_false_iff_ne]; simp
  | negSucc m => cases b with
    | ofNat n => simp only [ieq]; symm; rw [beq_eq_false_iff_ne]; simp
    | negSucc n => simp only [ieq]; rw [Bool.eq_iff_iff]; simp
theorem ilt_eq (a b : Int) : ilt a b = decide (a < b) := by
  cases a with
  | ofNat m => cases b with
    | ofNat n => simp only [ilt]; rw [Bool.eq_iff_iff]; simp [Nat.blt_eq]
    | negSucc n => simp only [ilt]; symm; simp; omega
  | negSucc m => cases b with
    | ofNat n => simp only [ilt]; symm; simp; omega
    | negSucc n => simp only [ilt]; rw [Bool.eq_iff_iff]; simp [Nat.blt_eq]; omega
theorem keq_eq {a b : IntKind} (h : keq a b = true) : a = b := by cases a <;> cases b <;> first | rfl | (simp [keq] at h)

theorem ofIntV_run {e : Sem Value} {a : AV} (h : ofIntV (runPure P e) = some a) (c : Ctx) (w : World) : ∃ u, e.run P w = .ok u w ∧ VR c a u := by
  cases hr : runPure P e with
  | none => simp [hr, ofIntV] at h
  | some v =>
    rw [hr] at h
    refine ⟨v, runPure_run hr w, ?_⟩
    cases v <;> simp [ofIntV] at h <;> subst h
    · exact .bool _
    · exact .int _ _

theorem wrap_small (k : IntKind) (n : Nat) (hn : n ≤ 127) : k.wrap (n : Int) = n := by
  cases k <;> (simp [IntKind.wrap, IntKind.bits, IntKind.signed]; omega)
theorem bits_ge (k : IntKind) : 8 ≤ k.bits := by cases k <;> simp [IntKind.bits]
theorem ofInt_small (k : IntKind) (n : Nat) (hn : n ≤ 127) : (BitVec.ofInt k.bits (n : Int)).toNat = n := by
  rw [BitVec.ofInt_natCast, BitVec.toNat_ofNat]
  apply Nat.mod_eq_of_lt
  have h1 := bits_ge k
  have h2 : 2 ^ 8 ≤ 2 ^ k.bits := Nat.pow_le_pow_right (by omega) h1
  omega

theorem aInt_run {op : BinOp} {t : TypeId} {k k' : IntKind} {a b : Int} {r : AV} (e : aInt P op t k a k' b = some r) (c : Ctx) (w : World) :
    ∃ u, (Go.binOp op t (.int k a) (.int k' b)).run P w = .ok u w ∧ VR c r u := by
  have slow : aInt.slow P op t k a k' b = some r → ∃ u, (Go.binOp op t (.int k a) (.int k' b)).run P w = .ok u w ∧ VR c r u := fun h => ofIntV_run h c w
  unfold aInt at e
  cases hk : keq k k' with
  | false => rw [hk] at e; exact slow e
  | true =>
    have := keq_eq hk
    subst this
    rw [hk] at e
    simp only [cond_true] at e
    cases op with
    | add => cases e; exact ⟨.int k (k.wrap (a + b)), by simp [Go.binOp, Op.intArith], by rw [fwrap_eq]; exact .int _ _⟩
    | sub => cases e; exact ⟨.int k (k.wrap (a - b)), by simp [Go.binOp, Op.intArith], by rw [fwrap_eq]; exact .int _ _⟩
    | mul => cases e; exact ⟨.int k (k.wrap (a * b)), by simp [Go.binOp, Op.intArith], by rw [fwrap_eq]; exact .int _ _⟩
    | eql => cases e; exact ⟨.bool (a == b), by simp [Go.binOp, Op.intCmp], by rw [ieq_eq]; exact .bool _⟩
    | neq => cases e; exact ⟨.bool (!(a == b)), by simp [Go.binOp, Op.intCmp, bne], by rw [ieq_eq]; exact .bool _⟩
    | lss => cases e; exact ⟨.bool (decide (a < b)), by simp [Go.binOp, Op.intCmp], by rw [ilt_eq]; exact .bool _⟩
    | gtr => cases e; exact ⟨.bool (decide (b < a)), by simp [Go.binOp, Op.intCmp], by rw [ilt_eq]; exact .bool _⟩
    | leq =>
      cases e
      refine ⟨.bool (decide (a ≤ b)), by simp [Go.binOp, Op.intCmp], ?_⟩
      have : (!ilt b a) = decide (a ≤ b) := by rw [ilt_eq, Bool.eq_iff_iff]; simp
      rw [this]; exact .bool _
    | geq =>
      cases e
      refine ⟨.bool (decide (b ≤ a)), by simp [Go.binOp, Op.intCmp], ?_⟩
      have : (!ilt a b) = decide (b ≤ a) := by rw [ilt_eq, Bool.eq_iff_iff]; simp
      rw [this]; exact .bool _
    | and =>
      simp only at e
      split at e
      · rename_i m n
        cases hb : (Nat.ble m 127 && Nat.ble n 127) with
        | false => rw [hb] at e; exact slow e
        | true =>
          rw [hb] at e
          cases e
          rw [Bool.and_eq_true] at hb
          have h1 := Nat.le_of_ble_eq_true hb.1
          have h2 := Nat.le_of_ble_eq_true hb.2
          refine ⟨_, ?_, .int _ _⟩
          have hl : Nat.land m n ≤ m := Nat.and_le_left
          have hw := wrap_small k (Nat.land m n) (by omega)
          have e3 : (BitVec.ofInt k.bits (m : Int) &&& BitVec.ofInt k.bits (n : Int)).toNat = Nat.land m n := by
            rw [BitVec.toNat_and, ofInt_small k m h1, ofInt_small k n h2]; rfl
          simp only [Go.binOp, ne_eq, not_true_eq_false, if_false, Op.intBits, Int.ofNat_eq_natCast]
          rw [e3, hw]; rfl
      · exact slow e
    | or =>
      simp only at e
      split at e
      · rename_i m n
        cases hb : (Nat.ble m 127 && Nat.ble n 127) with
        | false => rw [hb] at e; exact slow e
        | true =>
          rw [hb] at e
          cases e
          rw [Bool.and_eq_true] at hb
          have h1 := Nat.le_of_ble_eq_true hb.1
          have h2 := Nat.le_of_ble_eq_true hb.2
          refine ⟨_, ?_, .int _ _⟩
          have hl : Nat.lor m n < 2 ^ 7 := Nat.or_lt_two_pow (by omega) (by omega)
          have hw := wrap_small k (Nat.lor m n) (by omega)
          have e3 : (BitVec.ofInt k.bits (m : Int) ||| BitVec.ofInt k.bits (n : Int)).toNat = Nat.lor m n := by
            rw [BitVec.toNat_or, ofInt_small k m h1, ofInt_small k n h2]; rfl
          simp only [Go.binOp, ne_eq, not_true_eq_false, if_false, Op.intBits, Int.ofNat_eq_natCast]
          rw [e3, hw]; rfl
      · exact slow e
    | quo => exact slow e
    | rem => exact slow e
    | xor => exact slow e
    | shl => exact slow e
    | shr => exact slow e
    | andNot => exact slow e

theorem strLess_eq : ∀ a b : List UInt8, strLess a b = Op.bytesLess a b
  | a, [] => by cases a <;> rfl
  | [], _ :: _ => rfl
  | a :: x, b :: y => by simp [strLess, Op.bytesLess, strLess_eq x y]
theorem ba_toList (l : List UInt8) : (⟨⟨l⟩⟩ : ByteArray).toList = l := by
  rw [ByteArray.toList_eq]
end
end Go.Ev
