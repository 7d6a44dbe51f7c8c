/-
  The kernel of a renamed graph is the image of the kernel.
-/
import Derived.Test.YtgkgdobmiejdhaaEvGInvPlain
import Derived.Test.YtgkgdobmiejdhaaEvGPlain
namespace Go.Graph
open Go.Perm (img)

theorem kernTo_all (n : Nat) (r : Nat → Nat) (j : Nat) : ∀ k, (kernTo n r k).testBit j = true ↔ j < n ∧ ∀ p, p < k → (r p).testBit j = true
  | 0 => by
    unfold kernTo
    rw [Nat.testBit_two_pow_sub_one]
    simp
  | k + 1 => by
    unfold kernTo
    rw [Nat.testBit_and, Bool.and_eq_true, kernTo_all n r j k]
    constructor
    · rintro ⟨⟨h1, h2⟩, h3⟩
      refine ⟨h1, fun p hp => ?_⟩
      by_cases e : p = k
      · subst e; exact h3
      · exact h2 p (by omega)
    · rintro ⟨h1, h2⟩
      exact ⟨⟨h1, fun p hp => h2 p (by omega)⟩, h2 k (by omega)⟩
theorem kern_all (n : Nat) (r : Nat → Nat) (j : Nat) : (kern n r).testBit j = true ↔ j < n ∧ ∀ p, p < n → (r p).testBit j = true := kernTo_all n r j n
theorem img_bit (S j : Nat) : ∀ (l : List Int) (i out : Nat), (img S l i out).testBit j = true ↔ out.testBit j = true ∨ ∃ k, k < l.length ∧ S.testBit (i + k) = true ∧ (l.getD k 0).toNat = j
  | [], i, out => by simp [img]
  | q :: l, i, out => by
    rw [img, img_bit S j l (i + 1)]
    have hb : S.testBit i = decide (S / 2 ^ i % 2 = 1) := bit_div S i
    constructor
    · rintro (h | ⟨k, hk, h1, h2⟩)
      · by_cases hs : S / 2 ^ i % 2 = 1
        · rw [if_pos hs, Nat.testBit_or, Bool.or_eq_true] at h
          rcases h with h | h
          · exact .inl h
          · rw [Nat.testBit_two_pow] at h
            refine .inr ⟨0, by simp, ?_, ?_⟩
            · rw [Nat.add_zero, hb]; simpa using hs
            · simpa using h
        · rw [if_neg hs] at h; exact .inl h
      · refine .inr ⟨k + 1, by simpa using hk, ?_, ?_⟩
        · rw [show i + (k + 1) = i + 1 + k by omega]; exact h1
        · simpa using h2
    · rintro (h | ⟨k, hk, h1, h2⟩)
      · left
        by_cases hs : S / 2 ^ i % 2 = 1
        · rw [if_pos hs, Nat.testBit_or, h, Bool.true_or]
        · rw [if_neg hs]; exact h
      · cases k with
        | zero =>
          left
          rw [Nat.add_zero, hb, decide_eq_true_eq] at h1
          rw [if_pos h1, Nat.testBit_or, Bool.or_eq_true]
          right
          rw [Nat.testBit_two_pow]
          simpa using h2
        | succ k =>
          right
          refine ⟨k, by simpa using hk, ?_, by simpa using h2⟩
          rw [show i + 1 + k = i + (k + 1) by omega]; exact h1
theorem kern_ren {n : Nat} {a : Nat → Nat} {zs : List Int} {τ : Nat → Nat} (hl : zs.length = n) (u : Undo n (fun i => (zs.getD i 0).toNat) τ) : img (kern n a) zs 0 0 = kern n (ren n a (fun i => (zs.getD i 0).toNat)) := by
  apply Nat.eq_of_testBit_eq
  intro j
  rw [Bool.eq_iff_iff, img_bit, kern_all]
  constructor
  · rintro (h | ⟨k, hk, h1, h2⟩)
    · simp at h
    · rw [Nat.zero_add, kern_all] at h1
      obtain ⟨hkn, h1⟩ := h1
      refine ⟨by rw [← h2]; exact u.lt k hkn, fun p hp => ?_⟩
      rw [ren_bit]
      exact ⟨τ p, u.lt' p hp, k, hkn, h1 _ (u.lt' p hp), (u.right p hp).symm, h2.symm⟩
  · rintro ⟨hj, h⟩
    refine .inr ⟨τ j, by rw [hl]; exact u.lt' j hj, ?_, u.right j hj⟩
    rw [Nat.zero_add, kern_all]
    refine ⟨u.lt' j hj, fun x hx => ?_⟩
    have := h _ (u.lt x hx)
    rw [ren_bit] at this
    obtain ⟨x', hx', k', hk', hb, e1, e2⟩ := this
    rw [u.inj hx hx' e1, e2, u.left k' hk']
    exact hb
/-! Unions. -/
theorem join_comm (a b : Nat → Nat) : join a b = join b a := by funext i; unfold join; exact Nat.or_comm _ _
theorem join_assoc (a b c : Nat → Nat) : join (join a b) c = join a (join b c) := by funext i; unfold join; exact Nat.or_assoc _ _ _
theorem join_self (a : Nat → Nat) : join a a = a := by funext i; unfold join; exact Nat.or_self _
theorem within_of (a b : Nat → Nat) (n : Nat) : wthn a (join a b) n = true := by
  unfold wthn
  rw [decide_eq_true_eq]
  intro p _
  unfold join
  apply Nat.eq_of_testBit_eq
  intro j
  rw [Nat.testBit_and, Nat.testBit_or]
  cases (a p).testBit j <;> simp
theorem or_within (x y z : Nat) : (x ||| y) &&& z = x ||| y ↔ x &&& z = x ∧ y &&& z = y := by
  constructor
  · intro h
    have hb : ∀ j, ((x ||| y) &&& z).testBit j = (x ||| y).testBit j := fun j => by rw [h]
    constructor <;> (apply Nat.eq_of_testBit_eq; intro j; have := hb j; rw [Nat.testBit_and, Nat.testBit_or] at this; rw [Nat.testBit_and]; revert this; cases x.testBit j <;> cases y.testBit j <;> cases z.testBit j <;> simp)
  · rintro ⟨h1, h2⟩
    rw [Nat.and_or_distrib_right, h1, h2]
theorem within_both (a b c : Nat → Nat) (n : Nat) : wthn (join a b) c n = (wthn a c n && wthn b c n) := by
  unfold wthn
  rw [Bool.eq_iff_iff, Bool.and_eq_true, decide_eq_true_eq, decide_eq_true_eq, decide_eq_true_eq]
  unfold Within join
  constructor
  · intro h
    exact ⟨fun p hp => ((or_within _ _ _).1 (h p hp)).1, fun p hp => ((or_within _ _ _).1 (h p hp)).2⟩
  · rintro ⟨h1, h2⟩ p hp
    exact (or_within _ _ _).2 ⟨h1 p hp, h2 p hp⟩
end Go.Graph
