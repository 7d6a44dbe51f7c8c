/-
  Colors of simplices, and whether they are all different: the program's and the reference's.
-/
import Derived.Test.YtjggeombkbianaaEvSxCheck
namespace Go.Proofs.Ytjggeombkbianaa.Sx
open Go Go.RowKit Go.Law Go.Sx

theorem ret_two {k k' : IntKind} {a a' b : Int} (h : a = a') : Ending.returned (.tuple #[.int k a, .int k' b]) = .returned (.tuple #[.int k a', .int k' b]) := by rw [h]
theorem ret_btwo {k' : IntKind} {a a' : Bool} {b : Int} (h : a = a') : Ending.returned (.tuple #[.bool a, .int k' b]) = .returned (.tuple #[.bool a', .int k' b]) := by rw [h]
/-- A list that is a simplex. -/
structure Simp (l : List V) : Prop where
  pos : 1 ≤ l.length
  top : l.length ≤ 8
  ok : ∀ k, k < l.length → okV (vx l k) = true
  up : ∀ k, k + 1 < l.length → cmpV (vx l k) (vx l (k + 1)) = -1
theorem scan_zero {l : List V} {k : Nat} (h : scanV l (k + 1) = 0) : scanV l k = 0 ∧ stepErr l k = 0 := by
  rw [scanV] at h
  split at h
  · exact absurd h (by assumption)
  · rename_i h1
    exact ⟨by simpa using h1, h⟩
theorem step_zero {l : List V} {k : Nat} (h : stepErr l k = 0) : okV (vx l k) = true ∧ (0 < k → cmpV (vx l (k - 1)) (vx l k) = -1) := by
  unfold stepErr at h
  split at h
  · exact absurd h (by decide)
  · rename_i h1
    split at h
    · exact absurd h (by decide)
    · rename_i h2
      refine ⟨by simpa using h1, fun hk => ?_⟩
      have h3 : ¬ cmpV (vx l k) (vx l (k - 1)) ≤ 0 := fun e => h2 ⟨hk, e⟩
      have := cmpV_anti (vx l (k - 1)) (vx l k)
      have := cmpV_range (vx l (k - 1)) (vx l k)
      omega
theorem simp_of {l : List V} (h : chk l = 0) : Simp l := by
  unfold chk at h
  split at h
  · exact absurd h (by decide)
  · rename_i h0
    split at h
    · exact absurd h (by decide)
    · rename_i h8
      have key : ∀ k, k ≤ l.length → scanV l k = 0 := by
        intro k hk
        by_cases e : scanV l k = 0
        · exact e
        · rw [scanV_le l hk e] at h; exact absurd h e
      exact ⟨by omega, by omega, fun k hk => (step_zero (scan_zero (key (k + 1) (by omega))).2).1, fun k hk => (step_zero (scan_zero (key (k + 1 + 1) (by omega))).2).2 (by omega)⟩
theorem okV_color {v : V} (h : okV v = true) : ∃ p : Nat, v.1 = p ∧ p < 8 := by
  rcases okV_cases v with ⟨_, e⟩ | ⟨_, _, e⟩ | ⟨_, _, _, e⟩ | ⟨_, _, _, _, e⟩ | ⟨h1, h2, _, _, e⟩
  · rw [e] at h; cases h
  · rw [e] at h; cases h
  · rw [e] at h; cases h
  · rw [e] at h; cases h
  · exact ⟨v.1.toNat, by omega, by omega⟩
/-- The set of the colors. -/
def maskTo (l : List V) : Nat → Nat
  | 0 => 0
  | k + 1 => maskTo l k ||| 2 ^ (vx l k).1.toNat
theorem maskTo_lt {l : List V} (h : ∀ k, k < l.length → ∃ p : Nat, (vx l k).1 = p ∧ p < 8) : ∀ k, k ≤ l.length → maskTo l k < 256
  | 0, _ => by show 0 < 256; decide
  | k + 1, hk => by
    obtain ⟨p, e, hp⟩ := h k (by omega)
    unfold maskTo
    have h1 := maskTo_lt h k (by omega)
    rw [e, Int.toNat_natCast]
    exact Nat.or_lt_two_pow (n := 8) h1 (Nat.pow_lt_pow_right (by omega) hp)
theorem ofInt_i64 (n : Nat) : BitVec.ofInt 64 (n : Int) = BitVec.ofNat 64 n := BitVec.ofInt_natCast 64 n
theorem wrap_pow8 : ∀ p, p < 8 → wrap64 ((2 : Int) ^ p) = ((2 ^ p : Nat) : Int) := by decide +kernel
theorem or_nat (a b : Nat) (ha : a < 9223372036854775808) (hb : b < 9223372036854775808) : bits .or .i64 (a : Int) (b : Int) = ((a ||| b : Nat) : Int) := by
  have hx : a ||| b < 2 ^ 63 := Nat.or_lt_two_pow (by omega) (by omega)
  show IntKind.i64.wrap ((BitVec.ofInt 64 (a : Int) ||| BitVec.ofInt 64 (b : Int)).toNat : Int) = _
  rw [BitVec.toNat_or, ofInt_i64 a, ofInt_i64 b, IntKind.wrap_i64, BitVec.toNat_ofNat, BitVec.toNat_ofNat, Nat.mod_eq_of_lt (by omega), Nat.mod_eq_of_lt (by omega)]
  omega
theorem or_color (m p : Nat) (hm : m < 256) (hp : p < 8) : bits .or .i64 (m : Int) (wrap64 ((2 : Int) ^ p)) = ((m ||| 2 ^ p : Nat) : Int) := by
  have : 2 ^ p < 256 := Nat.pow_lt_pow_right (a := 2) (by omega) hp
  rw [wrap_pow8 p hp, or_nat _ _ (by omega) (by omega)]
def diffTo (l : List V) : Nat → Bool
  | 0 => true
  | k + 1 => diffTo l k && (k == 0 || decide ((vx l k).1 ≠ (vx l (k - 1)).1))
theorem diff_le {l : List V} {k m : Nat} (hk : k ≤ m) (h : diffTo l k = false) : diffTo l m = false := by
  induction m with
  | zero => obtain rfl : k = 0 := by omega
            exact h
  | succ m ih =>
    by_cases e : k = m + 1
    · rw [← e]; exact h
    · rw [diffTo, ih (by omega)]; rfl
set_option maxRecDepth 100000 in
set_option maxHeartbeats 2000000 in
theorem colors_in (a : Option Addr) (n cap b off : Nat) (A : List V) (w : World) (h : VIn w a n cap b off A) (hn : n ≤ 4096) (hc : ∀ k, k < A.length → ∃ p : Nat, (vx A k).1 = p ∧ p < 8) :
    Calls Try.prog 49 #[.slice a n cap] w fun e w' => e = .returned (.int .i64 (maskTo A n : Nat)) ∧ Below w.heap.size w w' := by
  have HA := Lib.hid (fun (w1 : World) (hb : Below w.heap.size w w1) => (h.below hb).cells)
  have H1 := Lib.hid h.head
  have hM := maskTo_lt hc
  rw [h.size] at hc hM
  have HC := Lib.hid hc
  have HM := Lib.hid hM
  clear h hc hM
  have TW := Lib.hid (Below.refl w.heap.size w)
  have HS := Lib.hid (fun k => show maskTo A (k + 1) = maskTo A k ||| 2 ^ (vx A k).1.toNat from rfl)
  go_enter Try.func49, Try.ntmps49
  go_wp2
  go_loopw [3, 8] (fun s i wr => ∃ k : Nat, k ≤ n ∧ i = .int .i64 k ∧ s = .int .i64 (maskTo A k : Nat) ∧ Below w.heap.size w wr) (fun _ i _ => n - (intOf i).toNat)
  case atStart => exact ⟨0, Nat.zero_le _, rfl, rfl, TW.out⟩
  case round =>
    obtain ⟨k, hk, rfl, rfl, hB⟩ := hrel
    have T := Lib.hid hB
    clear hB
    by_cases hlt : k < n
    · obtain rfl := H1.out (by omega)
      obtain ⟨c0, c1⟩ := HA.out wr T.out k hlt
      obtain ⟨p, ep, hp⟩ := HC.out k hlt
      have HN := Lib.hid (HS.out k)
      have hm := HM.out k hk
      obtain ⟨v, ev⟩ : ∃ v, vx A k = v := ⟨_, rfl⟩
      rw [ev] at c0 c1 ep HN
      clear ev
      obtain ⟨x, y⟩ := v
      simp only at ep c0 c1 HN
      subst ep
      rw [Int.toNat_natCast] at HN
      generalize maskTo A k = m at *
      have HO := Lib.hid (or_color m p hm hp)
      have hmn : min p 64 = p := by omega
      clear hm hp
      have T1 := Lib.hid (T.out.alloc T.out.size (.cells #[.int .i64 p, .int .i64 y] 56))
      obtain ⟨r0, r1⟩ := row2_new wr p y
      go_wp2
      go_roundw
      case rel => exact ⟨k + 1, by omega, by go_num, by rw [HN.out, ← HO.out], T1.out⟩
      case measure => simp [intOf]; omega
    · obtain rfl : k = n := by omega
      go_wp2
      go_ret
      exact ⟨rfl, T.out⟩
set_option maxRecDepth 100000 in
set_option maxHeartbeats 2000000 in
theorem rmask_in (a : Option Addr) (n cap b off : Nat) (A : List V) (w : World) (h : VIn w a n cap b off A) (hn : n ≤ 4096) (hc : ∀ k, k < A.length → ∃ p : Nat, (vx A k).1 = p ∧ p < 8) :
    Calls Try.prog 50 #[.slice a n cap] w fun e w' => e = .returned (.int .i64 (maskTo A n : Nat)) ∧ Below w.heap.size w w' := by
  have HA := Lib.hid (fun (w1 : World) (hb : Below w.heap.size w w1) => (h.below hb).cells)
  have H1 := Lib.hid h.head
  have hM := maskTo_lt hc
  rw [h.size] at hc hM
  have HC := Lib.hid hc
  have HM := Lib.hid hM
  clear h hc hM
  have TW := Lib.hid (Below.refl w.heap.size w)
  have HS := Lib.hid (fun k => show maskTo A (k + 1) = maskTo A k ||| 2 ^ (vx A k).1.toNat from rfl)
  go_enter Try.func50, Try.ntmps50
  go_wp2
  go_loopw [3, 4] (fun s i wr => ∃ k : Nat, k ≤ n ∧ i = .int .i64 k ∧ s = .int .i64 (maskTo A k : Nat) ∧ Below w.heap.size w wr) (fun _ i _ => n - (intOf i).toNat)
  case atStart => exact ⟨0, Nat.zero_le _, rfl, rfl, TW.out⟩
  case round =>
    obtain ⟨k, hk, rfl, rfl, hB⟩ := hrel
    have T := Lib.hid hB
    clear hB
    by_cases hlt : k < n
    · obtain rfl := H1.out (by omega)
      obtain ⟨c0, c1⟩ := HA.out wr T.out k hlt
      obtain ⟨p, ep, hp⟩ := HC.out k hlt
      have HN := Lib.hid (HS.out k)
      have hm := HM.out k hk
      obtain ⟨v, ev⟩ : ∃ v, vx A k = v := ⟨_, rfl⟩
      rw [ev] at c0 c1 ep HN
      clear ev
      obtain ⟨x, y⟩ := v
      simp only at ep c0 c1 HN
      subst ep
      rw [Int.toNat_natCast] at HN
      generalize maskTo A k = m at *
      have HO := Lib.hid (or_color m p hm hp)
      have hmn : min p 64 = p := by omega
      clear hm hp
      have T1 := T
      go_wp2
      go_roundw
      case rel => exact ⟨k + 1, by omega, by go_num, by rw [HN.out, ← HO.out], T1.out⟩
      case measure => simp [intOf]; omega
    · obtain rfl : k = n := by omega
      go_wp2
      go_ret
      exact ⟨rfl, T.out⟩
set_option maxHeartbeats 1000000 in
theorem Colors_in (a : Option Addr) (n cap b off : Nat) (A : List V) (w : World) (h : VIn w a n cap b off A) (hn : n ≤ 4096) :
    Calls Try.prog 14 #[.slice a n cap] w fun e w' => e = .returned (.tuple #[if chk A = 0 then .int .i64 (maskTo A n : Nat) else .int .i64 0, .int .i64 (chk A)]) ∧ Below w.heap.size w w' := by
  have HK := Lib.hid (check_in a n cap b off A w h hn)
  by_cases hc : chk A = 0
  · have hs := simp_of hc
    have HI := Lib.hid (fun (w1 : World) (hb : Below w.heap.size w w1) => colors_in a n cap b off A w1 (h.below hb) hn (fun k hk => okV_color (hs.ok k hk)))
    rw [if_pos hc]
    rw [hc] at HK ⊢
    clear h hc hs
    go_enter Try.func14, Try.ntmps14
    go_wp2_with first
      | (go_at_call 18; refine (HK.out).mono ?_; rintro e w1 ⟨rfl, hb⟩; have T1 := Lib.hid hb; clear hb)
      | (go_at_call 49; refine (HI.out _ T1.out).mono ?_; rintro e w2 ⟨rfl, hb⟩; have T2 := Lib.hid (T1.out.trans (bel_le hb T1.out.size)); clear hb)
    go_ret2
    exact ⟨rfl, T2.out⟩
  · rw [if_neg hc]
    generalize chk A = c at *
    have hb0 : (c != 0) = true := by simpa using hc
    clear h hc
    go_enter Try.func14, Try.ntmps14
    go_wp2_with (go_at_call 18; refine (HK.out).mono ?_; rintro e w1 ⟨rfl, hb⟩; have T1 := Lib.hid hb; clear hb)
    go_ret2
    exact ⟨rfl, T1.out⟩
set_option maxHeartbeats 1000000 in
theorem rColors_in (a : Option Addr) (n cap b off : Nat) (A : List V) (w : World) (h : VIn w a n cap b off A) (hn : n ≤ 4096) :
    Calls Try.prog 15 #[.slice a n cap] w fun e w' => e = .returned (.tuple #[if chk A = 0 then .int .i64 (maskTo A n : Nat) else .int .i64 0, .int .i64 (chk A)]) ∧ Below w.heap.size w w' := by
  have HK := Lib.hid (rcheck_in a n cap b off A w h hn)
  by_cases hc : chk A = 0
  · have hs := simp_of hc
    have HI := Lib.hid (fun (w1 : World) (hb : Below w.heap.size w w1) => rmask_in a n cap b off A w1 (h.below hb) hn (fun k hk => okV_color (hs.ok k hk)))
    rw [if_pos hc]
    rw [hc] at HK ⊢
    clear h hc hs
    go_enter Try.func15, Try.ntmps15
    go_wp2_with first
      | (go_at_call 19; refine (HK.out).mono ?_; rintro e w1 ⟨rfl, hb⟩; have T1 := Lib.hid hb; clear hb)
      | (go_at_call 50; refine (HI.out _ T1.out).mono ?_; rintro e w2 ⟨rfl, hb⟩; have T2 := Lib.hid (T1.out.trans (bel_le hb T1.out.size)); clear hb)
    go_ret2
    exact ⟨rfl, T2.out⟩
  · rw [if_neg hc]
    generalize chk A = c at *
    have hb0 : (c != 0) = true := by simpa using hc
    clear h hc
    go_enter Try.func15, Try.ntmps15
    go_wp2_with (go_at_call 19; refine (HK.out).mono ?_; rintro e w1 ⟨rfl, hb⟩; have T1 := Lib.hid hb; clear hb)
    go_ret2
    exact ⟨rfl, T1.out⟩
set_option maxRecDepth 100000 in
set_option maxHeartbeats 2000000 in
theorem different_in (a : Option Addr) (n cap b off : Nat) (A : List V) (w : World) (h : VIn w a n cap b off A) (hn : n ≤ 4096) (h1 : 1 ≤ n) :
    Calls Try.prog 51 #[.slice a n cap] w fun e w' => e = .returned (.bool (diffTo A n)) ∧ Below w.heap.size w w' := by
  have HA := Lib.hid (fun (w1 : World) (hb : Below w.heap.size w w1) => (h.below hb).cells)
  have H1 := Lib.hid h.head
  clear h
  have TW := Lib.hid (Below.refl w.heap.size w)
  have HS := Lib.hid (fun k => show diffTo A (k + 1) = (diffTo A k && (k == 0 || decide ((vx A k).1 ≠ (vx A (k - 1)).1))) from rfl)
  go_enter Try.func51, Try.ntmps51
  go_wp2
  go_loopw [3] (fun i wr => ∃ k : Nat, 1 ≤ k ∧ k ≤ n ∧ i = .int .i64 k ∧ Below w.heap.size w wr ∧ diffTo A k = true) (fun i _ => n - (intOf i).toNat)
  case atStart => exact ⟨1, by omega, h1, rfl, TW.out, rfl⟩
  case round =>
    obtain ⟨k, hk1, hk, rfl, hB, hD⟩ := hrel
    have T := Lib.hid hB
    have HD := Lib.hid hD
    clear hB hD
    by_cases hlt : k < n
    · obtain rfl := H1.out (by omega)
      obtain ⟨q, hq⟩ : ∃ q, k = q + 1 := ⟨k - 1, by omega⟩
      obtain ⟨p1, p2, p3, p4, p5⟩ := idx_pred hq hlt hn
      obtain ⟨c0, c1⟩ := HA.out wr T.out k hlt
      obtain ⟨d0, d1⟩ := HA.out wr T.out q p5
      have HN := Lib.hid (HS.out k)
      have HL := Lib.hid (fun (h : diffTo A (k + 1) = false) => diff_le (l := A) (show k + 1 ≤ n from hlt) h)
      rw [HD.out, Bool.true_and, show k - 1 = q by omega, show (k == 0) = false by simp; omega, Bool.false_or] at HN
      obtain ⟨u, eu⟩ : ∃ u, vx A k = u := ⟨_, rfl⟩
      obtain ⟨v, ev⟩ : ∃ v, vx A q = v := ⟨_, rfl⟩
      rw [eu] at c0 c1 HN
      rw [ev] at d0 d1 HN
      clear eu ev hq
      obtain ⟨x, y⟩ := u
      obtain ⟨s, t⟩ := v
      simp only at c0 c1 d0 d1 HN
      by_cases hx : x = s
      · have HF := Lib.hid (HL.out (by rw [HN.out]; simpa using hx))
        subst hx
        go_wp2
        go_quiet (fail)
        go_wp2
        go_ret
        exact ⟨ret_bool HF.out.symm, below_drewN T.out _⟩
      · have HF : Hid (diffTo A (k + 1) = true) := Lib.hid (by rw [HN.out]; simpa using hx)
        have hb : (s == x) = false := by simp; exact fun e => hx e.symm
        clear hx
        go_wp2
        go_quiet (fail)
        go_wp2
        exact ⟨⟨k + 1, by omega, by omega, by go_num, below_drewN T.out _, HF.out⟩, by simp [intOf]; omega⟩
    · obtain rfl : k = n := by omega
      go_wp2
      go_ret
      exact ⟨ret_bool HD.out.symm, T.out⟩
set_option maxHeartbeats 1000000 in
theorem rChromatic_in (a : Option Addr) (n cap b off : Nat) (A : List V) (w : World) (h : VIn w a n cap b off A) (hn : n ≤ 4096) :
    Calls Try.prog 17 #[.slice a n cap] w fun e w' => e = .returned (.tuple #[if chk A = 0 then .bool (diffTo A n) else .bool false, .int .i64 (chk A)]) ∧ Below w.heap.size w w' := by
  have HK := Lib.hid (rcheck_in a n cap b off A w h hn)
  by_cases hc : chk A = 0
  · have hs := simp_of hc
    have HI := Lib.hid (fun (w1 : World) (hb : Below w.heap.size w w1) => different_in a n cap b off A w1 (h.below hb) hn (by have := hs.pos; rw [h.size] at this; exact this))
    rw [if_pos hc]
    rw [hc] at HK ⊢
    clear h hc hs
    go_enter Try.func17, Try.ntmps17
    go_wp2_with first
      | (go_at_call 19; refine (HK.out).mono ?_; rintro e w1 ⟨rfl, hb⟩; have T1 := Lib.hid hb; clear hb)
      | (go_at_call 51; refine (HI.out _ T1.out).mono ?_; rintro e w2 ⟨rfl, hb⟩; have T2 := Lib.hid (T1.out.trans (bel_le hb T1.out.size)); clear hb)
    go_ret2
    exact ⟨rfl, T2.out⟩
  · rw [if_neg hc]
    generalize chk A = c at *
    have hb0 : (c != 0) = true := by simpa using hc
    clear h hc
    go_enter Try.func17, Try.ntmps17
    go_wp2_with (go_at_call 19; refine (HK.out).mono ?_; rintro e w1 ⟨rfl, hb⟩; have T1 := Lib.hid hb; clear hb)
    go_ret2
    exact ⟨rfl, T1.out⟩
set_option maxRecDepth 100000 in
set_option maxHeartbeats 2000000 in
theorem chromatic_ok (a : Option Addr) (n cap b off : Nat) (A : List V) (w : World) (h : VIn w a n cap b off A) (hn : n ≤ 4096) (hc : chk A = 0) :
    Calls Try.prog 16 #[.slice a n cap] w fun e w' => e = .returned (.tuple #[.bool (diffTo A n), .int .i64 0]) ∧ Below w.heap.size w w' := by
  have h1 : 1 ≤ n := by have := (simp_of hc).pos; rw [h.size] at this; exact this
  have HK := Lib.hid (check_in a n cap b off A w h hn)
  rw [hc] at HK
  have HA := Lib.hid (fun (w1 : World) (hb : Below w.heap.size w w1) => (h.below hb).cells)
  have H1 := Lib.hid h.head
  clear h hc
  have HS := Lib.hid (fun k => show diffTo A (k + 1) = (diffTo A k && (k == 0 || decide ((vx A k).1 ≠ (vx A (k - 1)).1))) from rfl)
  go_enter Try.func16, Try.ntmps16
  go_wp2_with (go_at_call 18; refine (HK.out).mono ?_; rintro e w1 ⟨rfl, hb⟩; have TW := Lib.hid hb; clear hb)
  go_loopw [5] (fun i wr => ∃ k : Nat, 1 ≤ k ∧ k ≤ n ∧ i = .int .i64 k ∧ Below w.heap.size w wr ∧ diffTo A k = true) (fun i _ => n - (intOf i).toNat)
  case atStart => exact ⟨1, by omega, h1, rfl, TW.out, rfl⟩
  case round =>
    obtain ⟨k, hk1, hk, rfl, hB, hD⟩ := hrel
    have T := Lib.hid hB
    have HD := Lib.hid hD
    clear hB hD
    by_cases hlt : k < n
    · obtain rfl := H1.out (by omega)
      obtain ⟨q, hq⟩ : ∃ q, k = q + 1 := ⟨k - 1, by omega⟩
      obtain ⟨p1, p2, p3, p4, p5⟩ := idx_pred hq hlt hn
      obtain ⟨c0, c1⟩ := HA.out wr T.out k hlt
      obtain ⟨d0, d1⟩ := HA.out wr T.out q p5
      have HN := Lib.hid (HS.out k)
      have HL := Lib.hid (fun (h : diffTo A (k + 1) = false) => diff_le (l := A) (show k + 1 ≤ n from hlt) h)
      rw [HD.out, Bool.true_and, show k - 1 = q by omega, show (k == 0) = false by simp; omega, Bool.false_or] at HN
      obtain ⟨u, eu⟩ : ∃ u, vx A k = u := ⟨_, rfl⟩
      obtain ⟨v, ev⟩ : ∃ v, vx A q = v := ⟨_, rfl⟩
      rw [eu] at c0 c1 HN
      rw [ev] at d0 d1 HN
      clear eu ev hq
      obtain ⟨x, y⟩ := u
      obtain ⟨s, t⟩ := v
      simp only at c0 c1 d0 d1 HN
      by_cases hx : x = s
      · have HF := Lib.hid (HL.out (by rw [HN.out]; simpa using hx))
        subst hx
        go_wp2
        go_quiet (fail)
        go_wp2
        go_ret2
        exact ⟨ret_btwo HF.out.symm, below_drewN T.out _⟩
      · have HF : Hid (diffTo A (k + 1) = true) := Lib.hid (by rw [HN.out]; simpa using hx)
        have hb : (x == s) = false := by simp; exact hx
        clear hx
        go_wp2
        go_quiet (fail)
        go_wp2
        exact ⟨⟨k + 1, by omega, by omega, by go_num, below_drewN T.out _, HF.out⟩, by simp [intOf]; omega⟩
    · obtain rfl : k = n := by omega
      go_wp2
      go_ret2
      exact ⟨ret_btwo HD.out.symm, T.out⟩
set_option maxHeartbeats 1000000 in
theorem Chromatic_in (a : Option Addr) (n cap b off : Nat) (A : List V) (w : World) (h : VIn w a n cap b off A) (hn : n ≤ 4096) :
    Calls Try.prog 16 #[.slice a n cap] w fun e w' => e = .returned (.tuple #[if chk A = 0 then .bool (diffTo A n) else .bool false, .int .i64 (chk A)]) ∧ Below w.heap.size w w' := by
  by_cases hc : chk A = 0
  · rw [if_pos hc]
    have := chromatic_ok a n cap b off A w h hn hc
    rw [hc]
    exact this
  · have HK := Lib.hid (check_in a n cap b off A w h hn)
    rw [if_neg hc]
    generalize chk A = c at *
    have hb0 : (c != 0) = true := by simpa using hc
    clear h hc
    go_enter Try.func16, Try.ntmps16
    go_wp2_with (go_at_call 18; refine (HK.out).mono ?_; rintro e w1 ⟨rfl, hb⟩; have T1 := Lib.hid hb; clear hb)
    go_ret2
    exact ⟨rfl, T1.out⟩
end Go.Proofs.Ytjggeombkbianaa.Sx
