/-
  Plain facts about checksums of bytes: sums of bytes times their positions, modulo 65521.
-/
import GoSem.Step
namespace Go.Wire

/-- The number of bytes, and each of the first k bytes times its position. -/
def sumTo (l : List UInt8) : Nat → Nat
  | 0 => l.length
  | k + 1 => sumTo l k + (k + 1) * (l.getD k 0).toNat

theorem sumTo_zero (l : List UInt8) : sumTo l 0 = l.length := rfl
theorem sumTo_succ (l : List UInt8) (k : Nat) : sumTo l (k + 1) = sumTo l k + (k + 1) * (l.getD k 0).toNat := rfl
theorem byte_lt (c : UInt8) : c.toNat < 256 := c.toNat_lt
theorem sumTo_le (l : List UInt8) (k : Nat) : sumTo l k ≤ l.length + k * k * 255 := by
  induction k with
  | zero => simp [sumTo]
  | succ k ih =>
    rw [sumTo_succ]
    have h : (k + 1) * (l.getD k 0).toNat ≤ (k + 1) * 255 := Nat.mul_le_mul_left _ (by have := byte_lt (l.getD k 0); omega)
    have : (k + 1) * (k + 1) * 255 = k * k * 255 + (k + 1) * 255 + k * 255 := by
      rw [Nat.succ_mul_succ_eq]; omega
    omega
/-- The program's step. -/
theorem step (l : List UInt8) (k : Nat) : (sumTo l k % 65521 + (k + 1) % 65521 * (l.getD k 0).toNat) % 65521 = sumTo l (k + 1) % 65521 := by
  rw [sumTo_succ, Nat.add_mod, Nat.mod_mod, Nat.mul_mod, Nat.mod_mod, ← Nat.mul_mod, ← Nat.add_mod]
theorem sumTo_one (l l' : List UInt8) (hl : l'.length = l.length) (k : Nat) (h : ∀ j, j ≠ k → l'.getD j 0 = l.getD j 0) (n : Nat) :
    (sumTo l' n : Int) = sumTo l n + if k < n then ((k : Int) + 1) * (((l'.getD k 0).toNat : Int) - ((l.getD k 0).toNat : Int)) else 0 := by
  induction n with
  | zero => simp [sumTo, hl]
  | succ n ih =>
    rw [sumTo_succ, sumTo_succ, Int.natCast_add, Int.natCast_add, ih]
    by_cases hk : n = k
    · subst hk
      rw [if_neg (by omega), if_pos (by omega)]
      have e1 : (((n + 1) * (l'.getD n 0).toNat : Nat) : Int) = ((n : Int) + 1) * ((l'.getD n 0).toNat : Int) := by simp
      have e2 : (((n + 1) * (l.getD n 0).toNat : Nat) : Int) = ((n : Int) + 1) * ((l.getD n 0).toNat : Int) := by simp
      rw [e1, e2, Int.mul_sub]; omega
    · rw [h n hk]
      by_cases hkn : k < n
      · rw [if_pos hkn, if_pos (by omega)]; omega
      · rw [if_neg hkn, if_neg (by omega)]; omega
theorem coprimes : ∀ e, e < 256 → e ≠ 0 → Nat.gcd 65521 e = 1 := by decide +kernel
theorem no_zero (m : Nat) (hm : 0 < m) (hm' : m < 65521) (d : Int) (hd : -256 < d) (hd' : d < 256) (h : (65521 : Int) ∣ (m : Int) * d) : d = 0 := by
  have h1 : 65521 ∣ m * d.natAbs := by
    have := Int.natAbs_dvd_natAbs.2 h
    rwa [Int.natAbs_mul, Int.natAbs_natCast] at this
  by_cases h0 : d.natAbs = 0
  · omega
  · exfalso
    have hc : Nat.Coprime 65521 d.natAbs := coprimes d.natAbs (by omega) h0
    have := Nat.le_of_dvd hm (hc.dvd_of_dvd_mul_right h1)
    omega
/-- One changed byte changes the checksum. -/
theorem differ (l l' : List UInt8) (hl : l'.length = l.length) (k : Nat) (hk : k < l.length) (hs : l.length ≤ 5000) (h : ∀ j, j ≠ k → l'.getD j 0 = l.getD j 0) :
    (sumTo l' l.length % 65521 = sumTo l l.length % 65521) ↔ l'.getD k 0 = l.getD k 0 := by
  have e := sumTo_one l l' hl k h l.length
  rw [if_pos hk] at e
  constructor
  · intro hm
    have hd : (65521 : Int) ∣ ((k + 1 : Nat) : Int) * (((l'.getD k 0).toNat : Int) - ((l.getD k 0).toNat : Int)) := by
      have : ((k + 1 : Nat) : Int) * (((l'.getD k 0).toNat : Int) - ((l.getD k 0).toNat : Int)) = (sumTo l' l.length : Int) - sumTo l l.length := by rw [e, show ((k + 1 : Nat) : Int) = (k : Int) + 1 from by omega]; generalize ((k : Int) + 1) * _ = x; omega
      rw [this]; omega
    have h1 := byte_lt (l'.getD k 0); have h2 := byte_lt (l.getD k 0)
    have := no_zero (k + 1) (by omega) (by omega) _ (by omega) (by omega) hd
    exact UInt8.toNat_inj.1 (by omega)
  · intro heq
    rw [heq, Int.sub_self, Int.mul_zero, Int.add_zero] at e
    omega
theorem sumTo_swap (l l' : List UInt8) (hl : l'.length = l.length) (k : Nat) (h : ∀ j, j ≠ k → j ≠ k + 1 → l'.getD j 0 = l.getD j 0) (h1 : l'.getD k 0 = l.getD (k + 1) 0) (h2 : l'.getD (k + 1) 0 = l.getD k 0) (n : Nat) (hn : k + 1 < n) :
    (sumTo l' n : Int) = sumTo l n + (((l.getD k 0).toNat : Int) - ((l.getD (k + 1) 0).toNat : Int)) := by
  have hlow : ∀ m, m ≤ k → sumTo l' m = sumTo l m := by
    intro m hm
    induction m with
    | zero => simp [sumTo, hl]
    | succ m ih => rw [sumTo_succ, sumTo_succ, ih (by omega), h m (by omega) (by omega)]
  have hup : ∀ m, (sumTo l' (k + 2 + m) : Int) = sumTo l (k + 2 + m) + (((l.getD k 0).toNat : Int) - ((l.getD (k + 1) 0).toNat : Int)) := by
    intro m
    induction m with
    | zero =>
      show (sumTo l' (k + 1 + 1) : Int) = sumTo l (k + 1 + 1) + _
      rw [sumTo_succ, sumTo_succ, sumTo_succ, sumTo_succ, hlow k (Nat.le_refl _), h1, h2]
      have e1 : (k + 1 + 1) * (l.getD k 0).toNat = (k + 1) * (l.getD k 0).toNat + (l.getD k 0).toNat := Nat.succ_mul _ _
      have e2 : (k + 1 + 1) * (l.getD (k + 1) 0).toNat = (k + 1) * (l.getD (k + 1) 0).toNat + (l.getD (k + 1) 0).toNat := Nat.succ_mul _ _
      rw [e1, e2]
      generalize (k + 1) * (l.getD k 0).toNat = x
      generalize (k + 1) * (l.getD (k + 1) 0).toNat = y
      omega
    | succ m ih =>
      show (sumTo l' (k + 2 + m + 1) : Int) = sumTo l (k + 2 + m + 1) + _
      rw [sumTo_succ, sumTo_succ, h (k + 2 + m) (by omega) (by omega), Int.natCast_add, Int.natCast_add, ih]; omega
  have := hup (n - (k + 2))
  rwa [show k + 2 + (n - (k + 2)) = n from by omega] at this
/-- Two neighbours that change places change the checksum exactly if they are different. -/
theorem swapped (l l' : List UInt8) (hl : l'.length = l.length) (k : Nat) (hk : k + 1 < l.length) (h : ∀ j, j ≠ k → j ≠ k + 1 → l'.getD j 0 = l.getD j 0) (h1 : l'.getD k 0 = l.getD (k + 1) 0) (h2 : l'.getD (k + 1) 0 = l.getD k 0) :
    (sumTo l' l.length % 65521 = sumTo l l.length % 65521) ↔ l.getD k 0 = l.getD (k + 1) 0 := by
  have e := sumTo_swap l l' hl k h h1 h2 l.length hk
  have b1 := byte_lt (l.getD k 0); have b2 := byte_lt (l.getD (k + 1) 0)
  constructor
  · intro hm; exact UInt8.toNat_inj.1 (by omega)
  · intro heq; rw [heq] at e; omega
end Go.Wire
