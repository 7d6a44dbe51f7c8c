/-
  The checksums of bytes: the program's.
-/
import Derived.Test.YtmdjpncicgmaiaaEvWireSeat
import Derived.Test.YtmdjpncicgmaiaaEvWireMath
import Derived.Test.YtmdjpncicgmaiaaEvOwn
import Derived.Deep.QuietTactic
import Derived.BigQuiet
import Derived.WalkKit
import Derived.IntWalk
import Derived.Lib.Hide
namespace Go.Proofs.Ytmdjpncicgmaiaa.Wire
open Go Go.RowKit Go.Law Go.Wire

theorem byte_at (s : ByteArray) (k : Nat) (hk : k < s.size) (w : World) : (Instr.index 9 (.string s) (.int .i64 (k : Int))).run Try.prog w = .ok (.int .u8 ((s.data.toList.getD k 0).toNat : Int)) w := by
  have h0 : (0 : Int) ≤ (k : Int) := by omega
  have hk' : k < s.data.size := hk
  have hg : s[((k : Int)).toNat]? = some (s.data.toList.getD k 0) := by
    rw [Int.toNat_natCast]
    show (if h : k < s.size then some (s[k]'h) else none) = _
    rw [dif_pos hk]
    have e : s.data.toList.getD k 0 = s.data[k] := by simp [List.getD, hk]
    rw [e]
    rfl
  simp only [Instr.index, asIntOf, Sem.run_bind, Sem.run_pure, Result.andThen_ok, run_underlying Try.underlying9, h0, if_true, hg]

theorem w64 (n : Int) (h : -9223372036854775808 ≤ n ∧ n ≤ 9223372036854775807) : wrap64 n = n := by unfold wrap64; omega
theorem go_step (q k c : Nat) (hq : q < 65521) (hk : k < 5000) (hc : c < 256) : (wrap64 ((q : Int) + wrap64 (((k : Int) + 1) % 65521 * (c : Int)))).tmod 65521 = (((q + (k + 1) % 65521 * c) % 65521 : Nat) : Int) := by
  have e1 : (k + 1) % 65521 = k + 1 := Nat.mod_eq_of_lt (by omega)
  have e2 : ((k : Int) + 1) % 65521 = ((k + 1 : Nat) : Int) := by rw [Int.emod_eq_of_lt (by omega) (by omega)]; push_cast; rfl
  have hb : (k + 1) * c ≤ 5000 * 255 := Nat.mul_le_mul (by omega) (by omega)
  rw [e1, e2, ← Int.natCast_mul]
  generalize (k + 1) * c = x at *
  rw [w64 (x : Int) (by omega), ← Int.natCast_add, w64 _ (by omega), Int.natCast_emod]
  exact Int.tmod_eq_emod_of_nonneg (by omega)
theorem go_step64 (q k c : Nat) (hq : q ≤ 5000 + 5000 * 5000 * 255) (hk : k < 5000) (hc : c < 256) : IntKind.u64.wrap ((q : Int) + IntKind.u64.wrap (((k : Int) + 1) * (c : Int))) = ((q + (k + 1) * c : Nat) : Int) := by
  have e2 : ((k : Int) + 1) = ((k + 1 : Nat) : Int) := by push_cast; rfl
  have hb : (k + 1) * c ≤ 5000 * 255 := Nat.mul_le_mul (by omega) (by omega)
  rw [e2, ← Int.natCast_mul]
  generalize (k + 1) * c = x at *
  have h1 : ∀ n : Nat, n < 18446744073709551616 → IntKind.u64.wrap (n : Int) = n := fun n hn => by
    simp [IntKind.wrap, IntKind.bits, IntKind.signed]; omega
  rw [h1 x (by omega), ← Int.natCast_add, h1 _ (by omega)]
theorem ret_int {a b : Int} (h : a = b) : Ending.returned (.int .i64 a) = .returned (.int .i64 b) := by rw [h]
set_option maxHeartbeats 1000000 in
theorem sum_any (s : ByteArray) (hs : s.size ≤ 5000) (w : World) :
    Calls Try.prog 14 #[.string s] w fun e w' => e = .returned (.int .i64 ((sumTo s.data.toList s.size % 65521 : Nat) : Int)) ∧ w = w' := by
  have HB := Lib.hid (byte_at s)
  have HL := Lib.hid (show sumTo s.data.toList 0 = s.size from by rw [sumTo_zero]; rfl)
  generalize hl : s.data.toList = l at *
  go_enter Try.func14, Try.ntmps14
  go_wp2
  go_loop [3, 10] (fun t i => ∃ k : Nat, k ≤ s.size ∧ i = .int .i64 k ∧ t = .int .i64 ((sumTo l k % 65521 : Nat) : Int)) (fun _ i => s.size - (intOf i).toNat)
  case atStart => exact ⟨0, Nat.zero_le _, rfl, by rw [HL.out, Int.natCast_emod]; rfl⟩
  case round =>
    obtain ⟨k, hk, rfl, rfl⟩ := hrel
    have HS := Lib.hid (Go.Wire.step l k)
    have hm : sumTo l k % 65521 < 65521 := Nat.mod_lt _ (by omega)
    generalize hq : sumTo l k % 65521 = q at *
    have HQ := Lib.hid hq
    clear hq
    by_cases hlt : k < s.size
    · have hix := HB.out k hlt
      have hc := byte_lt (l.getD k 0)
      generalize (l.getD k 0).toNat = c at *
      go_wp2
      go_round
      case rel => exact ⟨k + 1, by omega, by go_num, by rw [go_step q k c hm (by omega) hc, HS.out]⟩
      case measure => simp [intOf]; omega
    · go_wp2
      go_ret
      have hk' : k = s.size := by omega
      exact ⟨ret_int (by rw [← HQ.out, hk', Int.natCast_emod]; rfl), rfl⟩
set_option maxHeartbeats 1000000 in
theorem check_any (s : ByteArray) (hs : s.size ≤ 5000) (w : World) :
    Calls Try.prog 6 #[.string s] w fun e w' => e = .returned (.int .i64 ((sumTo s.data.toList s.size % 65521 : Nat) : Int)) ∧ w = w' := by
  generalize hq : sumTo s.data.toList s.size % 65521 = q at *
  have HQ := Lib.hid hq
  clear hq
  go_enter Try.func6, Try.ntmps6
  go_wp2_with (go_at_call 14; refine (sum_any s hs _).mono ?_; rintro e w' ⟨rfl, rfl⟩; rw [HQ.out])
  go_ret
  exact ⟨rfl, rfl⟩
theorem ret_true {b : Bool} (h : b = true) : Ending.returned (.bool b) = .returned (.bool true) := by rw [h]
set_option maxHeartbeats 1000000 in
theorem wireSums_call (s : ByteArray) (w : World) :
    Calls Try.prog 3 #[.string s] w fun e w' => e = .returned (.bool true) ∧ Below w.heap.size w w' := by
  by_cases hs : 5000 < s.size
  · have hb : decide ((5000 : Int) < (s.size : Int)) = true := by simp; omega
    go_enter Try.func3, Try.ntmps3
    go_wp2_with (go_at_call 5; refine (Ev.awake _).mono ?_; rintro e w' ⟨rfl, hw⟩)
    go_ret
    exact ⟨rfl, hw⟩
  · have HB := Lib.hid (byte_at s)
    have HL := Lib.hid (show sumTo s.data.toList 0 = s.size from by rw [sumTo_zero]; rfl)
    have HC := Lib.hid (check_any s (by omega))
    generalize hl : s.data.toList = l at *
    have hlen : ¬ (5000 : Int) < (s.size : Int) := by omega
    go_enter Try.func3, Try.ntmps3
    go_wp2
    go_loop [3, 14] (fun t i => ∃ k : Nat, k ≤ s.size ∧ i = .int .i64 k ∧ t = .int .u64 ((sumTo l k : Nat) : Int)) (fun _ i => s.size - (intOf i).toNat)
    case atStart => exact ⟨0, Nat.zero_le _, rfl, by rw [HL.out]⟩
    case round =>
      obtain ⟨k, hk, rfl, rfl⟩ := hrel
      have HS := Lib.hid (sumTo_succ l k)
      have hm : sumTo l k ≤ 5000 + 5000 * 5000 * 255 := Nat.le_trans (sumTo_le l k) (Nat.add_le_add (by rw [← hl]; simpa using (by omega : s.size ≤ 5000)) (Nat.mul_le_mul (Nat.mul_le_mul (by omega) (by omega)) (Nat.le_refl _)))
      generalize hq : sumTo l k = q at *
      have HQ := Lib.hid hq
      clear hq
      by_cases hlt : k < s.size
      · have hix := HB.out k hlt
        have hc := byte_lt (l.getD k 0)
        generalize (l.getD k 0).toNat = c at *
        go_wp2
        go_round
        case rel => exact ⟨k + 1, by omega, by go_num, by rw [HS.out]; exact congrArg _ (go_step64 q k c hm (by omega) hc)⟩
        case measure => simp [intOf]; omega
      · have hk' : k = s.size := by omega
        subst hk'
        have hq := HQ.out
        subst hq
        go_wp2_with first
          | (go_at_call 6; refine (HC.out _).mono ?_; rintro e w' ⟨rfl, rfl⟩)
          | (go_at_call 5; refine (Ev.awake _).mono ?_; rintro e w' ⟨rfl, hw⟩)
        go_ret
        exact ⟨rfl, hw⟩
theorem wireSums_walk {W : World} (s : ByteArray) (_ : s.size ≤ maxLen) : Calls Try.prog 3 #[.string s] W fun e w' => e = .returned (.bool true) ∧ Below W.heap.size W w' := wireSums_call s W
end Go.Proofs.Ytmdjpncicgmaiaa.Wire
