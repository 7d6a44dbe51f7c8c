/-
  What the reference's check of a permutation gives.
-/
import Derived.Test.YtpdlnijdcgcfbabDoorEvBPermWalks
namespace Go.Proofs.YtpdlnijdcgcfbabDoor.Perm
open Go Go.RowKit Go.Perm Go.Law
open Go.Proofs.YtpdlnijdcgcfbabDoor.Col (ret_int ret_bool ret_two bit_yes bit_no)

def Quiet (v : Value) (w : World) (e : Ending) (w' : World) : Prop := e = .returned v ∧ ∃ m, w' = w.drewN m
set_option maxHeartbeats 800000 in
theorem rcheck_any (b off len cap : Nat) (zs : List Int) (hz : zs.length = len) (h1 : 1 ≤ len) (h5 : len ≤ 5) (hcap : len ≤ cap) (w : World) (hc : At w b off zs) :
    Calls Tryd.prog 28 #[.slice (some ⟨b, off, none⟩) len cap] w (Quiet (.int .i64 (check zs)) w) := by
  have HC := Lib.hid hc
  clear hc
  have HK := Lib.hid (check_chk (l := zs) (by omega) (by omega))
  go_enter Tryd.func28, Tryd.ntmps28
  go_wp2
  go_loopw [3] (fun i wr => ∃ k m : Nat, k ≤ len ∧ i = .int .i64 k ∧ wr = w.drewN m ∧ chk zs.length zs [] = chk zs.length (zs.drop k) (zs.take k)) (fun i _ => len - (intOf i).toNat)
  case atStart => exact ⟨0, 0, Nat.zero_le _, rfl, rfl, rfl⟩
  case round =>
    obtain ⟨k, m, hk, rfl, rfl, hsc⟩ := hrel
    have HS := Lib.hid hsc
    clear hsc
    by_cases hlt : k < len
    · have hcell := HC.out k (by omega)
      have HD := Lib.hid (drop_cons (l := zs) (k := k) (by omega))
      have HT := Lib.hid (take_snoc (l := zs) (k := k) (by omega))
      generalize hx : zs.getD k 0 = x at *
      have HX := Lib.hid hx
      clear hx
      by_cases h0 : x < 0
      · go_wp2
        go_ret
        exact ⟨ret_int (by rw [HK.out, HS.out, HD.out, chk_range (.inl h0)]), m, rfl⟩
      · have h0' : 0 ≤ x := by omega
        by_cases hn : (len : Int) ≤ x
        · go_wp2
          go_ret
          exact ⟨ret_int (by rw [HK.out, HS.out, HD.out, chk_range (.inr (by omega))]), m, rfl⟩
        · go_wp2
          go_loopw [4] (fun j wr => ∃ t m2 : Nat, t ≤ k ∧ j = .int .i64 t ∧ wr = w.drewN m2 ∧ x ∉ zs.take t) (fun j _ => k - (intOf j).toNat)
          case atStart => exact ⟨0, m, Nat.zero_le _, rfl, rfl, by simp⟩
          case round =>
            obtain ⟨t, m2, ht, rfl, rfl, hno⟩ := hrel
            have HN := Lib.hid hno
            clear hno
            by_cases htk : t < k
            · have hcell2 := HC.out t (by omega)
              have HT2 := Lib.hid (take_snoc (l := zs) (k := t) (by omega))
              have HM := Lib.hid (mem_take (l := zs) (k := k) (x := zs.getD t 0))
              generalize hy : zs.getD t 0 = y at *
              have HY := Lib.hid hy
              clear hy
              by_cases hxy : y = x
              · have hb : (y == x) = true := by simpa using hxy
                have HXY := Lib.hid hxy
                clear hxy
                go_wp2
                go_quiet (fail)
                go_wp2
                go_ret
                refine ⟨ret_int ?_, m2 + nq, by rw [World.drewN_drewN]⟩
                rw [HK.out, HS.out, HD.out, chk_twice h0' (by omega) (by rw [← HXY.out]; exact HM.out.2 ⟨t, htk, by omega, HY.out⟩)]
              · have hb : (y == x) = false := by simpa using hxy
                go_wp2
                go_quiet (fail)
                go_wp2
                exact ⟨⟨t + 1, m2 + nq, by omega, by go_num, rfl, by rw [HT2.out]; simp [HN.out, Ne.symm hxy]⟩, by simp [intOf]; omega⟩
            · go_wp2
              have hxk : x ∉ zs.take k := by rw [show k = t from by omega]; exact HN.out
              exact ⟨⟨k + 1, m2, by omega, by go_num, rfl, by rw [HS.out, HD.out, chk_more h0' (by omega) hxk, HT.out]⟩, by simp [intOf]; omega⟩
    · go_wp2
      go_ret
      have hk' : k = zs.length := by omega
      exact ⟨ret_int (by rw [HK.out, HS.out, hk', List.drop_length]; rfl), m, rfl⟩
theorem rcheck_bad (a : Option Addr) (len cap : Nat) (h : len < 1 ∨ 5 < len) (w : World) : Calls Tryd.prog 28 #[.slice a len cap] w (Quiet (.int .i64 2) w) := by
  rcases h with h | h
  · go_enter Tryd.func28, Tryd.ntmps28
    go_wp2
    go_ret
    exact ⟨rfl, 0, rfl⟩
  · have h1 : ¬ len < 1 := by omega
    go_enter Tryd.func28, Tryd.ntmps28
    go_wp2
    go_ret
    exact ⟨rfl, 0, rfl⟩
end Go.Proofs.YtpdlnijdcgcfbabDoor.Perm
