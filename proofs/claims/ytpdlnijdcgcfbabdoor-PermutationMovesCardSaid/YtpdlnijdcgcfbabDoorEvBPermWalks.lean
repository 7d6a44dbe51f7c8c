/-
  What the functions of layer 2 and of its reference give, that look at permutations alone.
-/
import Derived.Test.YtpdlnijdcgcfbabDoorProg
import Derived.Test.YtpdlnijdcgcfbabDoorEvPermMath
import Derived.Test.YtpdlnijdcgcfbabDoorEvBColWalks
import Derived.Test.YtpdlnijdcgcfbabDoorEvOwn
import Derived.Test.YtpdlnijdcgcfbabDoorEvLaw
import Derived.WalkKit
import Derived.IntWalk
import Derived.Lib.Hide
import Derived.Deep.QuietTactic
import Derived.BigQuiet
namespace Go.Proofs.YtpdlnijdcgcfbabDoor.Perm
open Go Go.RowKit Go.Perm Go.Law
open Go.Proofs.YtpdlnijdcgcfbabDoor.Col (ret_int ret_bool ret_two bit_yes bit_no)

def IdxPost (zs : List Int) (x : Int) (w : World) (e : Ending) (w' : World) : Prop := ∃ r : Int, e = .returned (.int .i64 r) ∧ decide (0 ≤ r) = decide (x ∈ zs) ∧ -1 ≤ r ∧ w = w'
set_option maxHeartbeats 400000 in
theorem index_any (b off len cap : Nat) (zs : List Int) (x : Int) (hz : zs.length = len) (hlen : len ≤ 9223372036854775807) (w : World) (hc : At w b off zs) :
    Calls Tryd.prog 54 #[.slice (some ⟨b, off, none⟩) len cap, .int .i64 x] w (IdxPost zs x w) := by
  have HC := Lib.hid hc
  clear hc
  go_enter Tryd.func54, Tryd.ntmps54
  go_wp2
  go_loop [8] (fun i => ∃ k : Nat, k ≤ len ∧ i = .int .i64 k ∧ x ∉ zs.take k) (fun i => len - (intOf i).toNat)
  case atStart => exact ⟨0, Nat.zero_le _, rfl, by simp⟩
  case round =>
    obtain ⟨k, hk, rfl, hno⟩ := hrel
    have HN := Lib.hid hno
    clear hno
    by_cases hlt : k < len
    · have hcell := HC.out k (by omega)
      generalize hy : zs.getD k 0 = y at hcell
      have HY := Lib.hid hy
      clear hy
      have hmem : y ∈ zs := by rw [← HY.out]; exact getD_mem (by omega)
      by_cases hxy : x = y
      · have hb : (x == y) = true := by simpa using hxy
        have HX := Lib.hid hxy
        clear hxy
        go_wp2
        go_ret
        exact ⟨(k : Int), rfl, by simp [HX.out, hmem], by omega, rfl⟩
      · have hb : (x == y) = false := by simpa using hxy
        go_wp2
        go_round
        case rel => exact ⟨k + 1, by omega, by go_num, by rw [take_snoc (by omega), HY.out]; simp [HN.out, hxy]⟩
        case measure => simp [intOf]; omega
    · go_wp2
      go_ret
      refine ⟨-1, rfl, ?_, by omega, rfl⟩
      have := HN.out
      rw [List.take_of_length_le (by omega)] at this
      simp [this]
theorem index_nil (a : Option Addr) (cap : Nat) (x : Int) (w : World) : Calls Tryd.prog 54 #[.slice a 0 cap, .int .i64 x] w (IdxPost [] x w) := by
  go_enter Tryd.func54, Tryd.ntmps54
  go_wp2
  go_loop [8] (fun i => i = .int .i64 0) (fun _ => 0)
  case atStart => exact rfl
  case round =>
    obtain rfl := hrel
    go_wp2
    go_ret
    exact ⟨-1, rfl, by simp, by omega, rfl⟩
theorem contains_of (v : Value) (zs : List Int) (x : Int) (w : World) (h : Calls Tryd.prog 54 #[v, .int .i64 x] w (IdxPost zs x w)) :
    Calls Tryd.prog 44 #[v, .int .i64 x] w fun e w' => e = .returned (.bool (decide (x ∈ zs))) ∧ w = w' := by
  have HI := Lib.hid h
  clear h
  go_enter Tryd.func44, Tryd.ntmps44
  go_wp2_with (go_at_call 54; refine (HI.out).mono ?_; rintro e w' ⟨r, rfl, hr, hr1, rfl⟩; have HR := Lib.hid hr; clear hr)
  go_ret
  exact ⟨ret_bool HR.out, rfl⟩
theorem contains_any (b off len cap : Nat) (zs : List Int) (x : Int) (hz : zs.length = len) (hlen : len ≤ 9223372036854775807) (w : World) (hc : At w b off zs) :
    Calls Tryd.prog 44 #[.slice (some ⟨b, off, none⟩) len cap, .int .i64 x] w fun e w' => e = .returned (.bool (decide (x ∈ zs))) ∧ w = w' :=
  contains_of _ zs x w (index_any b off len cap zs x hz hlen w hc)

theorem checkN_ok (n : Int) (h1 : 1 ≤ n) (h2 : n ≤ 5) (w : World) : Calls Tryd.prog 32 #[.int .i64 n] w fun e w' => e = .returned (.int .i64 0) ∧ w = w' := by
  go_enter Tryd.func32, Tryd.ntmps32
  go_wp2
  go_ret
  exact ⟨rfl, rfl⟩
theorem checkN_bad (n : Int) (h : n < 1 ∨ 5 < n) (w : World) : Calls Tryd.prog 32 #[.int .i64 n] w fun e w' => e = .returned (.int .i64 2) ∧ w = w' := by
  rcases h with h | h
  · go_enter Tryd.func32, Tryd.ntmps32
    go_wp2
    go_ret
    exact ⟨rfl, rfl⟩
  · have h1 : ¬ n < 1 := by omega
    go_enter Tryd.func32, Tryd.ntmps32
    go_wp2
    go_ret
    exact ⟨rfl, rfl⟩

set_option maxHeartbeats 800000 in
theorem check_any (b off len cap : Nat) (zs : List Int) (hz : zs.length = len) (h1 : 1 ≤ len) (h5 : len ≤ 5) (hcap : len ≤ cap) (w : World) (hc : At w b off zs) :
    Calls Tryd.prog 30 #[.slice (some ⟨b, off, none⟩) len cap] w fun e w' => e = .returned (.int .i64 (check zs)) ∧ w = w' := by
  have HC := Lib.hid hc
  clear hc
  have HK := Lib.hid (check_chk (l := zs) (by omega) (by omega))
  go_enter Tryd.func30, Tryd.ntmps30
  go_wp2_with (go_at_call 32; refine (checkN_ok _ (by omega) (by omega) _).mono ?_; rintro e w' ⟨rfl, rfl⟩)
  go_loop [14] (fun i => ∃ k : Nat, k ≤ len ∧ i = .int .i64 k ∧ chk zs.length zs [] = chk zs.length (zs.drop k) (zs.take k)) (fun i => len - (intOf i).toNat)
  case atStart => exact ⟨0, Nat.zero_le _, rfl, rfl⟩
  case round =>
    obtain ⟨k, hk, rfl, hsc⟩ := hrel
    have HS := Lib.hid hsc
    clear hsc
    by_cases hlt : k < len
    · have hcell := HC.out k (by omega)
      have HD := Lib.hid (drop_cons (l := zs) (k := k) (by omega))
      have HT := Lib.hid (take_snoc (l := zs) (k := k) (by omega))
      generalize hx : zs.getD k 0 = x at *
      have HX := Lib.hid hx
      clear hx
      by_cases h0 : x < 0
      · go_wp2
        go_ret
        exact ⟨ret_int (by rw [HK.out, HS.out, HD.out, chk_range (.inl h0)]), rfl⟩
      · have h0' : 0 ≤ x := by omega
        by_cases hn : (len : Int) ≤ x
        · go_wp2
          go_ret
          exact ⟨ret_int (by rw [HK.out, HS.out, HD.out, chk_range (.inr (by omega))]), rfl⟩
        · by_cases hm : x ∈ zs.take k
          · have HB := Lib.hid (show decide (x ∈ zs.take k) = true by simpa using hm)
            have HM := Lib.hid hm
            clear hm
            go_wp2_with (go_at_call 44; refine (contains_any _ _ _ _ (zs.take k) _ (by rw [List.length_take]; omega) (by omega) _ (HC.out.take k)).mono ?_; rintro e w' ⟨rfl, rfl⟩; rw [HB.out])
            go_ret
            exact ⟨ret_int (by rw [HK.out, HS.out, HD.out, chk_twice h0' (by omega) HM.out]), rfl⟩
          · have HB := Lib.hid (show decide (x ∈ zs.take k) = false by simpa using hm)
            have HM := Lib.hid hm
            clear hm
            go_wp2_with (go_at_call 44; refine (contains_any _ _ _ _ (zs.take k) _ (by rw [List.length_take]; omega) (by omega) _ (HC.out.take k)).mono ?_; rintro e w' ⟨rfl, rfl⟩; rw [HB.out])
            go_round
            case rel => exact ⟨k + 1, by omega, by go_num, by rw [HS.out, HD.out, chk_more h0' (by omega) HM.out, HT.out]⟩
            case measure => simp [intOf]; omega
    · go_wp2
      go_ret
      have hk' : k = zs.length := by omega
      exact ⟨ret_int (by rw [HK.out, HS.out, hk', List.drop_length]; rfl), rfl⟩
theorem check_bad (a : Option Addr) (len cap : Nat) (h : len < 1 ∨ 5 < len) (w : World) : Calls Tryd.prog 30 #[.slice a len cap] w fun e w' => e = .returned (.int .i64 2) ∧ w = w' := by
  go_enter Tryd.func30, Tryd.ntmps30
  go_wp2_with (go_at_call 32; refine (checkN_bad _ (by omega) _).mono ?_; rintro e w' ⟨rfl, rfl⟩)
  go_ret
  exact ⟨rfl, rfl⟩
end Go.Proofs.YtpdlnijdcgcfbabDoor.Perm
