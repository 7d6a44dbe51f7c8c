/-
  What the functions of layer 1's reference give, that ProcsetCollects calls: powers, members, sets with a member.
-/
import GoSem.Step
import Derived.Test.YtpdlnijdcgcfbaaDoorProg
import Derived.WalkKit
import Derived.IntWalk
import Derived.Lib.Hide
import Derived.Laws.BitsAllLaws
import Derived.Laws.BitsLemmas
namespace Go.Col

/-- The set of a list, and the number of the error, from a set on. -/
def scan (n : Nat) : List Int → Nat → Int × Int
  | [], s => (s, 0)
  | x :: xs, s => if x < 0 ∨ (n : Int) ≤ x then (0, 2) else if s / 2 ^ x.toNat % 2 = 1 then (0, 7) else scan n xs (s + 2 ^ x.toNat)

theorem scan_range {n : Nat} {x : Int} {xs : List Int} {s : Nat} (h : x < 0 ∨ (n : Int) ≤ x) : scan n (x :: xs) s = (0, 2) := by rw [scan, if_pos h]
theorem scan_twice {n : Nat} {x : Int} {xs : List Int} {s : Nat} (h0 : 0 ≤ x) (h1 : x < n) (h : s / 2 ^ x.toNat % 2 = 1) : scan n (x :: xs) s = (0, 7) := by
  rw [scan, if_neg (by omega), if_pos h]
theorem scan_more {n : Nat} {x : Int} {xs : List Int} {s : Nat} (h0 : 0 ≤ x) (h1 : x < n) (h : s / 2 ^ x.toNat % 2 = 0) : scan n (x :: xs) s = scan n xs (s + 2 ^ x.toNat) := by
  rw [scan, if_neg (by omega), if_neg (by omega)]

theorem room : ∀ n, n < 6 → ∀ x, x < n → ∀ s, s < 2 ^ n → s / 2 ^ x % 2 = 0 → s + 2 ^ x < 2 ^ n := by
  intro n hn x hx s hs h
  have e : ∀ n < 6, ∀ x < n, ∀ s < 32, s < 2 ^ n → s / 2 ^ x % 2 = 0 → s + 2 ^ x < 2 ^ n := by decide +kernel
  refine e n hn x hx s (Nat.lt_of_lt_of_le hs ?_) hs h
  exact Nat.pow_le_pow_right (by omega) (show n ≤ 5 by omega)
theorem bits_or : ∀ x, x < 5 → ∀ s, s < 32 → s / 2 ^ x % 2 = 0 → s ||| 2 ^ x = s + 2 ^ x := by decide +kernel
theorem bits_and : ∀ x, x < 5 → ∀ s, s < 32 → (s &&& 2 ^ x = 0 ↔ s / 2 ^ x % 2 = 0) := by decide +kernel
end Go.Col
namespace Go.Proofs.YtpdlnijdcgcfbaaDoor.Col
open Go Go.RowKit Go.Col

theorem ret_int {k : IntKind} {a b : Int} (h : a = b) : Ending.returned (.int k a) = .returned (.int k b) := by rw [h]
theorem ret_bool {a b : Bool} (h : a = b) : Ending.returned (.bool a) = .returned (.bool b) := by rw [h]
set_option maxHeartbeats 400000 in
theorem power_any (n : Nat) (hn : n ≤ 5) (w : World) :
    Calls Tryd.prog 78 #[.int .i64 n] w fun e w' => e = .returned (.int .i64 ((2 ^ n : Nat) : Int)) ∧ w = w' := by
  go_enter Tryd.func78, Tryd.ntmps78
  go_wp2
  go_loop [3, 4] (fun o i => ∃ k : Nat, k ≤ n ∧ i = .int .i64 k ∧ o = .int .i64 ((2 ^ k : Nat) : Int)) (fun _ i => n - (intOf i).toNat)
  case atStart => exact ⟨0, Nat.zero_le _, rfl, rfl⟩
  case round =>
    obtain ⟨k, hk, rfl, rfl⟩ := hrel
    have hp : 2 ^ k ≤ 32 := Nat.le_trans (Nat.pow_le_pow_right (by omega) (show k ≤ 5 by omega)) (by decide)
    have hp1 : (2 : Int) ^ k ≤ 32 := by exact_mod_cast hp
    have hp0 : 0 ≤ (2 : Int) ^ k := by have := Nat.zero_le (2 ^ k); exact_mod_cast this
    clear hp
    by_cases hlt : k < n
    · go_wp2
      go_round
      case rel => exact ⟨k + 1, by omega, by go_num, by rw [Nat.pow_succ]; push_cast; rfl⟩
      case measure => simp [intOf]; omega
    · go_wp2
      go_ret
      have : k = n := by omega
      subst this
      exact ⟨rfl, rfl⟩
set_option maxHeartbeats 400000 in
theorem has_any (s p : Nat) (hs : s < 32) (hp : p < 5) (w : World) :
    Calls Tryd.prog 79 #[.int .i64 s, .int .i64 p] w fun e w' => e = .returned (.bool (s / 2 ^ p % 2 == 1)) ∧ w = w' := by
  have hq : 2 ^ p ≤ 16 := Nat.le_trans (Nat.pow_le_pow_right (by omega) (show p ≤ 4 by omega)) (by decide)
  have hq0 : 0 < 2 ^ p := Nat.pow_pos (by omega)
  generalize hg : 2 ^ p = q at *
  have HG := Lib.hid hg
  clear hg
  have hd : s / q < 32 := Nat.lt_of_le_of_lt (Nat.div_le_self _ _) hs
  have hd1 : (s : Int) / (q : Int) < 32 := by exact_mod_cast hd
  have hd0 : 0 ≤ (s : Int) / (q : Int) := by have := Nat.zero_le (s / q); exact_mod_cast this
  clear hd
  go_enter Tryd.func79, Tryd.ntmps79
  go_wp2_with (go_at_call 78; refine (power_any _ (by omega) _).mono ?_; rintro e w' ⟨rfl, rfl⟩; rw [HG.out])
  go_ret
  refine ⟨ret_bool ?_, rfl⟩
  show ((((s / q : Nat) : Int)) % 2 == 1) = _
  rw [Bool.eq_iff_iff]; simp only [beq_iff_eq]; omega

set_option maxHeartbeats 400000 in
theorem with_any (s p : Nat) (hs : s < 32) (hp : p < 5) (h : s / 2 ^ p % 2 = 0) (w : World) :
    Calls Tryd.prog 80 #[.int .i64 s, .int .i64 p] w fun e w' => e = .returned (.int .i64 ((s + 2 ^ p : Nat) : Int)) ∧ w = w' := by
  have hq : 2 ^ p ≤ 16 := Nat.le_trans (Nat.pow_le_pow_right (by omega) (show p ≤ 4 by omega)) (by decide)
  have hb : (s / 2 ^ p % 2 == 1) = false := by simp [h]
  have HB := Lib.hid hb
  clear hb h
  generalize hg : 2 ^ p = q at *
  have HG := Lib.hid hg
  clear hg
  go_enter Tryd.func80, Tryd.ntmps80
  go_wp2_with (first | (go_at_call 79; refine (has_any _ _ hs hp _).mono ?_; rintro e w' ⟨rfl, rfl⟩; rw [HG.out, HB.out]) | (go_at_call 78; refine (power_any _ (by omega) _).mono ?_; rintro e w' ⟨rfl, rfl⟩; rw [HG.out]))
  go_ret
  exact ⟨ret_int (by omega), rfl⟩

theorem checkN_ok (n : Int) (h1 : 1 ≤ n) (h2 : n ≤ 5) (w : World) : Calls Tryd.prog 69 #[.int .i64 n] w fun e w' => e = .returned (.int .i64 0) ∧ w = w' := by
  go_enter Tryd.func69, Tryd.ntmps69
  go_wp2
  go_ret
  exact ⟨rfl, rfl⟩
theorem checkN_bad (n : Int) (h : n < 1 ∨ 5 < n) (w : World) : Calls Tryd.prog 69 #[.int .i64 n] w fun e w' => e = .returned (.int .i64 1) ∧ w = w' := by
  rcases h with h | h
  · go_enter Tryd.func69, Tryd.ntmps69
    go_wp2
    go_ret
    exact ⟨rfl, rfl⟩
  · have h1 : ¬ n < 1 := by omega
    go_enter Tryd.func69, Tryd.ntmps69
    go_wp2
    go_ret
    exact ⟨rfl, rfl⟩
theorem procs_ok (n : Int) (h1 : 1 ≤ n) (h2 : n ≤ 5) (w : World) : Calls Tryd.prog 70 #[.int .i64 n] w fun e w' => e = .returned (.int .i64 0) ∧ w = w' := by
  go_enter Tryd.func70, Tryd.ntmps70
  go_wp2
  go_ret
  exact ⟨rfl, rfl⟩
theorem procs_bad (n : Int) (h : n < 1 ∨ 5 < n) (w : World) : Calls Tryd.prog 70 #[.int .i64 n] w fun e w' => e = .returned (.int .i64 1) ∧ w = w' := by
  rcases h with h | h
  · go_enter Tryd.func70, Tryd.ntmps70
    go_wp2
    go_ret
    exact ⟨rfl, rfl⟩
  · have h1 : ¬ n < 1 := by omega
    go_enter Tryd.func70, Tryd.ntmps70
    go_wp2
    go_ret
    exact ⟨rfl, rfl⟩

theorem ret_two {k l : IntKind} {a b c d : Int} (h : a = b) (h' : c = d) : Ending.returned (.tuple #[.int k a, .int l c]) = .returned (.tuple #[.int k b, .int l d]) := by rw [h, h']
theorem ofInt_i64 (a : Nat) (ha : a < 9223372036854775808) : (BitVec.ofInt 64 (a : Int)).toNat = a := by
  rw [BitVec.ofInt_natCast, BitVec.toNat_ofNat]; exact Nat.mod_eq_of_lt (by omega)
theorem i64_and_nat (a b : Nat) (ha : a < 9223372036854775808) (hb : b < 9223372036854775808) : bits .and .i64 (a : Int) (b : Int) = ((a &&& b : Nat) : Int) := by
  have hx : a &&& b < 2 ^ 63 := Nat.and_lt_two_pow _ (by omega)
  show IntKind.i64.wrap ((BitVec.ofInt 64 (a : Int) &&& BitVec.ofInt 64 (b : Int)).toNat : Int) = _
  rw [BitVec.toNat_and, ofInt_i64 a ha, ofInt_i64 b hb, IntKind.wrap_i64]
  omega
theorem i64_or_nat (a b : Nat) (ha : a < 9223372036854775808) (hb : b < 9223372036854775808) : bits .or .i64 (a : Int) (b : Int) = ((a ||| b : Nat) : Int) := by
  have hx : a ||| b < 2 ^ 63 := Nat.or_lt_two_pow (by omega) (by omega)
  show IntKind.i64.wrap ((BitVec.ofInt 64 (a : Int) ||| BitVec.ofInt 64 (b : Int)).toNat : Int) = _
  rw [BitVec.toNat_or, ofInt_i64 a ha, ofInt_i64 b hb, IntKind.wrap_i64]
  omega
theorem wrap_pow : ∀ p, p < 5 → wrap64 ((2 : Int) ^ p) = ((2 ^ p : Nat) : Int) := by decide +kernel
theorem pow_small (p : Nat) (hp : p < 5) : 2 ^ p < 9223372036854775808 := Nat.lt_of_lt_of_le (Nat.pow_lt_pow_right (by omega) hp) (by decide)
theorem bit_and (s p : Nat) (hs : s < 32) (hp : p < 5) : bits BinOp.and IntKind.i64 (s : Int) (wrap64 (2 ^ p)) = ((s &&& 2 ^ p : Nat) : Int) := by
  rw [wrap_pow p hp, i64_and_nat _ _ (by omega) (pow_small p hp)]
theorem bit_yes (s p : Nat) (hs : s < 32) (hp : p < 5) (h : (bits BinOp.and IntKind.i64 (s : Int) (wrap64 (2 ^ p)) != 0) = true) : s / 2 ^ p % 2 = 1 := by
  rw [bit_and s p hs hp] at h
  have := bits_and p hp s hs
  simp only [bne_iff_ne, ne_eq, Int.natCast_eq_zero] at h
  have h2 : ¬ s / 2 ^ p % 2 = 0 := fun h0 => h (this.2 h0)
  omega
theorem bit_no (s p : Nat) (hs : s < 32) (hp : p < 5) (h : (bits BinOp.and IntKind.i64 (s : Int) (wrap64 (2 ^ p)) != 0) = false) : s / 2 ^ p % 2 = 0 := by
  rw [bit_and s p hs hp] at h
  simp only [bne_eq_false_iff_eq, Int.natCast_eq_zero] at h
  exact (bits_and p hp s hs).1 h
theorem bit_or (s p : Nat) (hs : s < 32) (hp : p < 5) (h : s / 2 ^ p % 2 = 0) : bits BinOp.or IntKind.i64 (s : Int) (wrap64 (2 ^ p)) = ((s + 2 ^ p : Nat) : Int) := by
  rw [wrap_pow p hp, i64_or_nat _ _ (by omega) (pow_small p hp), bits_or p hp s hs h]
set_option maxHeartbeats 400000 in
theorem of_any (n : Nat) (hn1 : 1 ≤ n) (hn5 : n ≤ 5) (b off len cap : Nat) (zs : List Int) (hz : zs.length = len) (hlen : len ≤ 9223372036854775807) (w : World)
    (hc : ∀ j, j < zs.length → w.cell? ⟨b, off + j, none⟩ = some (.int .i64 (zs.getD j 0))) :
    Calls Tryd.prog 28 #[.int .i64 n, .slice (some ⟨b, off, none⟩) len cap] w fun e w' => e = .returned (.tuple #[.int .i64 (scan n zs 0).1, .int .i64 (scan n zs 0).2]) ∧ w = w' := by
  have HC := Lib.hid hc
  clear hc
  go_enter Tryd.func28, Tryd.ntmps28
  go_wp2_with (go_at_call 69; refine (checkN_ok _ (by omega) (by omega) _).mono ?_; rintro e w' ⟨rfl, rfl⟩)
  go_loop [7, 17] (fun t i => ∃ k s : Nat, k ≤ len ∧ s < 2 ^ n ∧ i = .int .i64 k ∧ t = .int .i64 s ∧ scan n zs 0 = scan n (zs.drop k) s) (fun _ i => len - (intOf i).toNat)
  case atStart => exact ⟨0, 0, Nat.zero_le _, Nat.pow_pos (by omega), rfl, rfl, rfl⟩
  case round =>
    obtain ⟨k, s, hk, hs, rfl, rfl, hsc⟩ := hrel
    have HS := Lib.hid hsc
    clear hsc
    by_cases hlt : k < len
    · have hcell := HC.out k (by omega)
      generalize hx : zs.getD k 0 = x at hcell
      have HX := Lib.hid hx
      clear hx
      have hdrop : zs.drop k = x :: zs.drop (k + 1) := by
        rw [List.drop_eq_getElem_cons (by omega), ← HX.out]; simp [List.getD, List.getElem?_eq_getElem (show k < zs.length by omega)]
      have HD := Lib.hid hdrop
      clear hdrop
      by_cases h0 : x < 0
      · go_wp2
        go_ret2
        exact ⟨ret_two (by rw [HS.out, HD.out, scan_range (.inl h0)]) (by rw [HS.out, HD.out, scan_range (.inl h0)]), rfl⟩
      · obtain ⟨p, rfl⟩ := Int.eq_ofNat_of_zero_le (show 0 ≤ x by omega)
        by_cases h1 : n ≤ p
        · go_wp2
          go_ret2
          exact ⟨ret_two (by rw [HS.out, HD.out, scan_range (.inr (by omega))]) (by rw [HS.out, HD.out, scan_range (.inr (by omega))]), rfl⟩
        · have hs32 : s < 32 := Nat.lt_of_lt_of_le hs (Nat.pow_le_pow_right (by omega) (show n ≤ 5 by omega))
          go_wp2
          · have hb : (bits BinOp.and IntKind.i64 (↑s) (wrap64 (2 ^ p)) != 0) = true := by assumption
            have hyes := bit_yes s p hs32 (by omega) hb
            go_ret2
            exact ⟨ret_two (by rw [HS.out, HD.out, scan_twice (by omega) (by omega) (by simpa using hyes)]) (by rw [HS.out, HD.out, scan_twice (by omega) (by omega) (by simpa using hyes)]), rfl⟩
          · have hb : (bits BinOp.and IntKind.i64 (↑s) (wrap64 (2 ^ p)) != 0) = false := by assumption
            have hno := bit_no s p hs32 (by omega) hb
            go_round
            case rel => exact ⟨k + 1, s + 2 ^ p, by omega, room n (by omega) p (by omega) s hs hno, by go_num, by rw [bit_or s p hs32 (by omega) hno], by rw [HS.out, HD.out, scan_more (by omega) (by omega) (by simpa using hno)]; simp⟩
            case measure => simp [intOf]; omega
    · go_wp2
      go_ret2
      have hk' : k = zs.length := by omega
      exact ⟨ret_two (by rw [HS.out, hk', List.drop_length]; rfl) (by rw [HS.out, hk', List.drop_length]; rfl), rfl⟩

set_option maxHeartbeats 800000 in
theorem rof_any (n : Nat) (hn1 : 1 ≤ n) (hn5 : n ≤ 5) (b off len cap : Nat) (zs : List Int) (hz : zs.length = len) (hlen : len ≤ 9223372036854775807) (w : World)
    (hc : ∀ j, j < zs.length → w.cell? ⟨b, off + j, none⟩ = some (.int .i64 (zs.getD j 0))) :
    Calls Tryd.prog 29 #[.int .i64 n, .slice (some ⟨b, off, none⟩) len cap] w fun e w' => e = .returned (.tuple #[.int .i64 (scan n zs 0).1, .int .i64 (scan n zs 0).2]) ∧ w = w' := by
  have HC := Lib.hid hc
  clear hc
  go_enter Tryd.func29, Tryd.ntmps29
  go_wp2_with (go_at_call 70; refine (procs_ok _ (by omega) (by omega) _).mono ?_; rintro e w' ⟨rfl, rfl⟩)
  go_loop [7, 8] (fun t i => ∃ k s : Nat, k ≤ len ∧ s < 2 ^ n ∧ i = .int .i64 k ∧ t = .int .i64 s ∧ scan n zs 0 = scan n (zs.drop k) s) (fun _ i => len - (intOf i).toNat)
  case atStart => exact ⟨0, 0, Nat.zero_le _, Nat.pow_pos (by omega), rfl, rfl, rfl⟩
  case round =>
    obtain ⟨k, s, hk, hs, rfl, rfl, hsc⟩ := hrel
    have HS := Lib.hid hsc
    clear hsc
    by_cases hlt : k < len
    · have hcell := HC.out k (by omega)
      generalize hx : zs.getD k 0 = x at hcell
      have HX := Lib.hid hx
      clear hx
      have hdrop : zs.drop k = x :: zs.drop (k + 1) := by
        rw [List.drop_eq_getElem_cons (by omega), ← HX.out]; simp [List.getD, List.getElem?_eq_getElem (show k < zs.length by omega)]
      have HD := Lib.hid hdrop
      clear hdrop
      by_cases h0 : x < 0
      · go_wp2
        go_ret2
        exact ⟨ret_two (by rw [HS.out, HD.out, scan_range (.inl h0)]) (by rw [HS.out, HD.out, scan_range (.inl h0)]), rfl⟩
      · obtain ⟨p, rfl⟩ := Int.eq_ofNat_of_zero_le (show 0 ≤ x by omega)
        by_cases h1 : n ≤ p
        · go_wp2
          go_ret2
          exact ⟨ret_two (by rw [HS.out, HD.out, scan_range (.inr (by omega))]) (by rw [HS.out, HD.out, scan_range (.inr (by omega))]), rfl⟩
        · have hs32 : s < 32 := Nat.lt_of_lt_of_le hs (Nat.pow_le_pow_right (by omega) (show n ≤ 5 by omega))
          rcases Nat.mod_two_eq_zero_or_one (s / 2 ^ p) with hno | hyes
          · have HB := Lib.hid (show (s / 2 ^ p % 2 == 1) = false by simp [hno])
            have HN := Lib.hid hno
            clear hno
            go_wp2_with (first | (go_at_call 79; refine (has_any _ _ hs32 (by omega) _).mono ?_; rintro e w' ⟨rfl, rfl⟩; rw [HB.out]) | (go_at_call 80; refine (with_any _ _ hs32 (by omega) HN.out _).mono ?_; rintro e w' ⟨rfl, rfl⟩))
            go_round
            case rel => exact ⟨k + 1, s + 2 ^ p, by omega, room n (by omega) p (by omega) s hs HN.out, by go_num, by go_num, by rw [HS.out, HD.out, scan_more (by omega) (by omega) (by simpa using HN.out)]; simp⟩
            case measure => simp [intOf]; omega
          · have HB := Lib.hid (show (s / 2 ^ p % 2 == 1) = true by simp [hyes])
            have HN := Lib.hid hyes
            clear hyes
            go_wp2_with (go_at_call 79; refine (has_any _ _ hs32 (by omega) _).mono ?_; rintro e w' ⟨rfl, rfl⟩; rw [HB.out])
            go_ret2
            exact ⟨ret_two (by rw [HS.out, HD.out, scan_twice (by omega) (by omega) (by simpa using HN.out)]) (by rw [HS.out, HD.out, scan_twice (by omega) (by omega) (by simpa using HN.out)]), rfl⟩
    · go_wp2
      go_ret2
      have hk' : k = zs.length := by omega
      exact ⟨ret_two (by rw [HS.out, hk', List.drop_length]; rfl) (by rw [HS.out, hk', List.drop_length]; rfl), rfl⟩

/-! The empty list. -/
theorem of_nil (n : Int) (h1 : 1 ≤ n) (h2 : n ≤ 5) (a : Option Addr) (cap : Nat) (w : World) : Calls Tryd.prog 28 #[.int .i64 n, .slice a 0 cap] w fun e w' => e = .returned (.tuple #[.int .i64 0, .int .i64 0]) ∧ w = w' := by
  go_enter Tryd.func28, Tryd.ntmps28
  go_wp2_with (go_at_call 69; refine (checkN_ok _ (by omega) (by omega) _).mono ?_; rintro e w' ⟨rfl, rfl⟩)
  go_loop [7, 17] (fun t i => i = .int .i64 0 ∧ t = .int .i64 0) (fun _ _ => 0)
  case atStart => exact ⟨rfl, rfl⟩
  case round =>
    obtain ⟨rfl, rfl⟩ := hrel
    go_wp2
    go_ret2
    exact ⟨rfl, rfl⟩
theorem rof_nil (n : Int) (h1 : 1 ≤ n) (h2 : n ≤ 5) (a : Option Addr) (cap : Nat) (w : World) : Calls Tryd.prog 29 #[.int .i64 n, .slice a 0 cap] w fun e w' => e = .returned (.tuple #[.int .i64 0, .int .i64 0]) ∧ w = w' := by
  go_enter Tryd.func29, Tryd.ntmps29
  go_wp2_with (go_at_call 70; refine (procs_ok _ (by omega) (by omega) _).mono ?_; rintro e w' ⟨rfl, rfl⟩)
  go_loop [7, 8] (fun t i => i = .int .i64 0 ∧ t = .int .i64 0) (fun _ _ => 0)
  case atStart => exact ⟨rfl, rfl⟩
  case round =>
    obtain ⟨rfl, rfl⟩ := hrel
    go_wp2
    go_ret2
    exact ⟨rfl, rfl⟩
/-! A wrong number of processes. -/
theorem of_bad (n : Int) (h : n < 1 ∨ 5 < n) (l : Value) (w : World) : Calls Tryd.prog 28 #[.int .i64 n, l] w fun e w' => e = .returned (.tuple #[.int .i64 0, .int .i64 1]) ∧ w = w' := by
  go_enter Tryd.func28, Tryd.ntmps28
  go_wp2_with (go_at_call 69; refine (checkN_bad _ h _).mono ?_; rintro e w' ⟨rfl, rfl⟩)
  go_ret2
  exact ⟨rfl, rfl⟩
theorem rof_bad (n : Int) (h : n < 1 ∨ 5 < n) (l : Value) (w : World) : Calls Tryd.prog 29 #[.int .i64 n, l] w fun e w' => e = .returned (.tuple #[.int .i64 0, .int .i64 1]) ∧ w = w' := by
  go_enter Tryd.func29, Tryd.ntmps29
  go_wp2_with (go_at_call 70; refine (procs_bad _ h _).mono ?_; rintro e w' ⟨rfl, rfl⟩)
  go_ret2
  exact ⟨rfl, rfl⟩
theorem few_any (a : Option Addr) (len cap : Nat) (w : World) : Calls Tryd.prog 27 #[.slice a len cap] w fun e w' => e = .returned (.bool (decide (len ≤ 60))) ∧ w = w' := by
  go_enter Tryd.func27, Tryd.ntmps27
  go_wp2
  go_ret
  refine ⟨ret_bool ?_, rfl⟩
  simp; omega

end Go.Proofs.YtpdlnijdcgcfbaaDoor.Col
