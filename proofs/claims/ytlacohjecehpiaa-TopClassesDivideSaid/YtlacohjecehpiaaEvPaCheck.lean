/-
  The check of partitions: the program's and the reference's.
-/
import Derived.Test.YtlacohjecehpiaaProg
import Derived.Test.YtlacohjecehpiaaEvPaMath
import Derived.Test.YtlacohjecehpiaaEvLaw
import Derived.Test.YtlacohjecehpiaaEvOwn
import Derived.WalkKit
import Derived.IntWalk
import Derived.Lib.Hide
import Derived.BigQuiet
import Derived.Deep.QuietTactic
namespace Go.Proofs.Ytlacohjecehpiaa.Part
open Go Go.RowKit Go.Part Go.Law

theorem ret_int {k : IntKind} {a b : Int} (h : a = b) : Ending.returned (.int k a) = .returned (.int k b) := by rw [h]
theorem ret_bool {a b : Bool} (h : a = b) : Ending.returned (.bool a) = .returned (.bool b) := by rw [h]
/-- The code of the check, for all lists. -/
def code (l : List Int) : Int := if 65536 < l.length then 5 else chk l
theorem code_long {l : List Int} (h : 65536 < l.length) : code l = 5 := if_pos h
theorem code_short {l : List Int} (h : ¬ 65536 < l.length) : code l = chk l := if_neg h
theorem getD_drop {zs : List Int} {k : Nat} {x : Int} (hx : zs.getD k 0 = x) (h : k < zs.length) : zs.drop k = x :: zs.drop (k + 1) := by rw [drop_cons h, hx]
theorem chk_neg {n x : Int} {r : List Int} (h : x < 0) : chkFrom n (x :: r) = 2 := by rw [chkFrom, if_pos h]
theorem chk_high {n x : Int} {r : List Int} (h : ¬ x < 0) (h' : x > n) : chkFrom n (x :: r) = 14 := by rw [chkFrom, if_neg h, if_pos h']
theorem chk_next {n x : Int} {r : List Int} (h : ¬ x < 0) (h' : x = n) : chkFrom n (x :: r) = chkFrom (n + 1) r := by rw [chkFrom, if_neg h, if_neg (by omega), if_pos h']
theorem chk_low {n x : Int} {r : List Int} (h : ¬ x < 0) (h' : x < n) : chkFrom n (x :: r) = chkFrom n r := by rw [chkFrom, if_neg h, if_neg (by omega), if_neg (by omega)]

theorem check_long (a : Option Addr) (len cap : Nat) (hl : 65536 < len) (w : World) : Calls Try.prog 18 #[.slice a len cap] w fun e w' => e = .returned (.int .i64 5) ∧ w = w' := by
  go_enter Try.func18, Try.ntmps18
  go_wp2
  go_ret
  exact ⟨rfl, rfl⟩
theorem rcheck_long (a : Option Addr) (len cap : Nat) (hl : 65536 < len) (w : World) : Calls Try.prog 19 #[.slice a len cap] w fun e w' => e = .returned (.int .i64 5) ∧ w = w' := by
  go_enter Try.func19, Try.ntmps19
  go_wp2
  go_ret
  exact ⟨rfl, rfl⟩
theorem check_nil (a : Option Addr) (cap : Nat) (w : World) : Calls Try.prog 18 #[.slice a 0 cap] w fun e w' => e = .returned (.int .i64 0) ∧ w = w' := by
  go_enter Try.func18, Try.ntmps18
  go_wp2
  refine wp_loop_rounds 1 ?_
  rw [rounds_succ]
  go_wp2
  go_ret
  exact ⟨rfl, rfl⟩
theorem rcheck_nil (a : Option Addr) (cap : Nat) (w : World) : Calls Try.prog 19 #[.slice a 0 cap] w fun e w' => e = .returned (.int .i64 0) ∧ w = w' := by
  go_enter Try.func19, Try.ntmps19
  go_wp2
  refine wp_loop_rounds 1 ?_
  rw [rounds_succ]
  go_wp2
  go_ret
  exact ⟨rfl, rfl⟩
set_option maxHeartbeats 800000 in
theorem check_some (b off len cap : Nat) (zs : List Int) (hz : zs.length = len) (hlen : ¬ 65536 < len) (w : World)
    (hc : ∀ j, j < zs.length → w.cell? ⟨b, off + j, none⟩ = some (.int .i64 (zs.getD j 0))) :
    Calls Try.prog 18 #[.slice (some ⟨b, off, none⟩) len cap] w fun e w' => e = .returned (.int .i64 (chk zs)) ∧ w = w' := by
  have HC := Lib.hid hc
  clear hc
  go_enter Try.func18, Try.ntmps18
  go_wp2
  go_loop [3, 11] (fun t i => ∃ k s : Nat, k ≤ len ∧ s ≤ k ∧ i = .int .i64 k ∧ t = .int .i64 s ∧ chk zs = chkFrom s (zs.drop k)) (fun _ i => len - (intOf i).toNat)
  case atStart => exact ⟨0, 0, Nat.zero_le _, Nat.le_refl _, rfl, rfl, rfl⟩
  case round =>
    obtain ⟨k, s, hk, hs, rfl, rfl, hsc⟩ := hrel
    have HS := Lib.hid hsc
    clear hsc
    by_cases hlt : k < len
    · have hcell := HC.out k (by omega)
      generalize hx : zs.getD k 0 = x at hcell
      have HD := Lib.hid (getD_drop hx (by omega))
      clear hx
      by_cases h0 : x < 0
      · go_wp2
        go_ret
        exact ⟨ret_int (by rw [HS.out, HD.out, chk_neg h0]), rfl⟩
      · obtain ⟨p, rfl⟩ := Int.eq_ofNat_of_zero_le (show 0 ≤ x by omega)
        rcases Nat.lt_trichotomy s p with h1 | h1 | h1
        · go_wp2
          go_ret
          exact ⟨ret_int (by rw [HS.out, HD.out, chk_high (by omega) (by omega)]), rfl⟩
        · subst h1
          go_wp2
          go_round
          case rel => exact ⟨k + 1, s + 1, by omega, by omega, by go_num, by go_num, by rw [HS.out, HD.out, chk_next (by omega) rfl]; rfl⟩
          case measure => simp [intOf]; omega
        · have h2 : ¬ s < p := by omega
          have h3 : ¬ p = s := by omega
          go_wp2
          go_round
          case rel => exact ⟨k + 1, s, by omega, by omega, by go_num, by go_num, by rw [HS.out, HD.out, chk_low (by omega) (by omega)]⟩
          case measure => simp [intOf]; omega
    · go_wp2
      go_ret
      have hk' : k = zs.length := by omega
      exact ⟨ret_int (by rw [HS.out, hk', List.drop_length]; rfl), rfl⟩
set_option maxHeartbeats 800000 in
theorem rcheck_some (b off len cap : Nat) (zs : List Int) (hz : zs.length = len) (hlen : ¬ 65536 < len) (w : World)
    (hc : ∀ j, j < zs.length → w.cell? ⟨b, off + j, none⟩ = some (.int .i64 (zs.getD j 0))) :
    Calls Try.prog 19 #[.slice (some ⟨b, off, none⟩) len cap] w fun e w' => e = .returned (.int .i64 (chk zs)) ∧ w = w' := by
  have HC := Lib.hid hc
  clear hc
  go_enter Try.func19, Try.ntmps19
  go_wp2
  go_loop [3, 4] (fun t i => ∃ k s : Nat, k ≤ len ∧ s ≤ k ∧ i = .int .i64 k ∧ t = .int .i64 s ∧ chk zs = chkFrom s (zs.drop k)) (fun _ i => len - (intOf i).toNat)
  case atStart => exact ⟨0, 0, Nat.zero_le _, Nat.le_refl _, rfl, rfl, rfl⟩
  case round =>
    obtain ⟨k, s, hk, hs, rfl, rfl, hsc⟩ := hrel
    have HS := Lib.hid hsc
    clear hsc
    by_cases hlt : k < len
    · have hcell := HC.out k (by omega)
      generalize hx : zs.getD k 0 = x at hcell
      have HD := Lib.hid (getD_drop hx (by omega))
      clear hx
      by_cases h0 : x < 0
      · go_wp2
        go_ret
        exact ⟨ret_int (by rw [HS.out, HD.out, chk_neg h0]), rfl⟩
      · obtain ⟨p, rfl⟩ := Int.eq_ofNat_of_zero_le (show 0 ≤ x by omega)
        rcases Nat.lt_trichotomy s p with h1 | h1 | h1
        · go_wp2
          go_ret
          exact ⟨ret_int (by rw [HS.out, HD.out, chk_high (by omega) (by omega)]), rfl⟩
        · subst h1
          go_wp2
          go_round
          case rel => exact ⟨k + 1, s + 1, by omega, by omega, by go_num, by go_num, by rw [HS.out, HD.out, chk_next (by omega) rfl]; rfl⟩
          case measure => simp [intOf]; omega
        · have h2 : ¬ s < p := by omega
          have h3 : ¬ p = s := by omega
          go_wp2
          go_round
          case rel => exact ⟨k + 1, s, by omega, by omega, by go_num, by go_num, by rw [HS.out, HD.out, chk_low (by omega) (by omega)]⟩
          case measure => simp [intOf]; omega
    · go_wp2
      go_ret
      have hk' : k = zs.length := by omega
      exact ⟨ret_int (by rw [HS.out, hk', List.drop_length]; rfl), rfl⟩
theorem check_any {w : World} {v : Value} {zs : List Int} (h : IntsAt w .i64 v zs) : Calls Try.prog 18 #[v] w fun e w' => e = .returned (.int .i64 (code zs)) ∧ w = w' := by
  obtain ⟨a, cap, rfl, h1, h2, h3⟩ := h
  by_cases hl : 65536 < zs.length
  · rw [code_long hl]; exact check_long _ _ _ hl w
  · rw [code_short hl]
    rcases h3 with rfl | ⟨b, off, rfl, hb, hc⟩
    · exact check_nil _ _ w
    · exact check_some b off _ cap zs rfl hl w hc
theorem rcheck_any {w : World} {v : Value} {zs : List Int} (h : IntsAt w .i64 v zs) : Calls Try.prog 19 #[v] w fun e w' => e = .returned (.int .i64 (code zs)) ∧ w = w' := by
  obtain ⟨a, cap, rfl, h1, h2, h3⟩ := h
  by_cases hl : 65536 < zs.length
  · rw [code_long hl]; exact rcheck_long _ _ _ hl w
  · rw [code_short hl]
    rcases h3 with rfl | ⟨b, off, rfl, hb, hc⟩
    · exact rcheck_nil _ _ w
    · exact rcheck_some b off _ cap zs rfl hl w hc
end Go.Proofs.Ytlacohjecehpiaa.Part
