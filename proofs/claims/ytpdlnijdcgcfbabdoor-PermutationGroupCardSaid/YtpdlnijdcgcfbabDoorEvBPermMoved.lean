/-
  The moved vector of the reference; errors; equal lists.
-/
import Derived.Test.YtpdlnijdcgcfbabDoorEvBPermVec
namespace Go.Proofs.YtpdlnijdcgcfbabDoor.Perm
open Go Go.RowKit Go.Perm Go.Law
open Go.Proofs.YtpdlnijdcgcfbabDoor.Col (ret_int ret_bool ret_two)

def OnePost (zs : List Int) (W : World) (e : Ending) (w' : World) : Prop := ∃ v, e = .returned v ∧ Below W.heap.size W w' ∧ IntsAt w' .i64 v zs
/-! Equal lists. -/
theorem equal_len (a a' : Option Addr) (l c l' c' : Nat) (h : l ≠ l') (w : World) : Calls Tryd.prog 12 #[.slice a l c, .slice a' l' c'] w (Quiet (.bool false) w) := by
  have hb : ((l : Int) != (l' : Int)) = true := by simpa using (by omega : (l : Int) ≠ l')
  go_enter Tryd.func12, Tryd.ntmps12
  go_wp2
  go_ret
  exact ⟨rfl, 0, rfl⟩
theorem equal_nil (a a' : Option Addr) (c c' : Nat) (w : World) : Calls Tryd.prog 12 #[.slice a 0 c, .slice a' 0 c'] w (Quiet (.bool true) w) := by
  go_enter Tryd.func12, Tryd.ntmps12
  go_wp2
  go_loop [13] (fun i => i = .int .i64 0) (fun _ => 0)
  case atStart => exact rfl
  case round =>
    obtain rfl := hrel
    go_wp2
    go_ret
    exact ⟨rfl, 0, rfl⟩
theorem eq_take_succ {zs ys : List Int} {k : Nat} (h1 : k < zs.length) (h2 : k < ys.length) (h : zs.take k = ys.take k) (hx : zs.getD k 0 = ys.getD k 0) : zs.take (k + 1) = ys.take (k + 1) := by
  rw [take_snoc h1, take_snoc h2, h, hx]
set_option maxHeartbeats 800000 in
theorem equal_any (b off len cap : Nat) (zs : List Int) (b1 off1 cap1 : Nat) (ys : List Int) (hz : zs.length = len) (hv : ys.length = len) (hlen : len ≤ 9223372036854775807) (w : World) (hc : At w b off zs) (hd : At w b1 off1 ys) :
    Calls Tryd.prog 12 #[.slice (some ⟨b, off, none⟩) len cap, .slice (some ⟨b1, off1, none⟩) len cap1] w (Quiet (.bool (decide (zs = ys))) w) := by
  have HC := Lib.hid hc
  have HD := Lib.hid hd
  have HZ := Lib.hid hz
  have HV := Lib.hid hv
  clear hc hd hz hv
  go_enter Tryd.func12, Tryd.ntmps12
  go_wp2
  go_loopw [13] (fun i wr => ∃ k m : Nat, k ≤ len ∧ i = .int .i64 k ∧ wr = w.drewN m ∧ zs.take k = ys.take k) (fun i _ => len - (intOf i).toNat)
  case atStart => exact ⟨0, 0, Nat.zero_le _, rfl, rfl, rfl⟩
  case round =>
    obtain ⟨k, m, hk, rfl, rfl, hsame⟩ := hrel
    have HS := Lib.hid hsame
    clear hsame
    have hz := HZ.out
    have hv := HV.out
    by_cases hlt : k < len
    · have hcell := HC.out k (by omega)
      have hcell1 := HD.out k (by omega)
      have HT := Lib.hid (eq_take_succ (zs := zs) (ys := ys) (k := k) (by omega) (by omega) HS.out)
      have HG : Hid (zs = ys → zs.getD k 0 = ys.getD k 0) := Lib.hid (fun h => by rw [h])
      generalize zs.getD k 0 = x at *
      generalize ys.getD k 0 = y at *
      clear hz hv
      by_cases hxy : x = y
      · have hb : (x != y) = false := by simpa using hxy
        have HX := Lib.hid hxy
        clear hxy
        go_wp2
        go_quiet (fail)
        go_wp2
        exact ⟨⟨k + 1, m + nq, by omega, by go_num, rfl, HT.out HX.out⟩, by simp [intOf]; omega⟩
      · have hb : (x != y) = true := by simpa using hxy
        have HX := Lib.hid hxy
        clear hxy
        go_wp2
        go_quiet (fail)
        go_wp2
        go_ret
        refine ⟨ret_bool ?_, m + nq, by rw [World.drewN_drewN]⟩
        exact (decide_eq_false fun h => HX.out (HG.out h)).symm
    · clear hz hv
      go_wp2
      go_ret
      refine ⟨ret_bool ?_, m, rfl⟩
      have hz := HZ.out
      have hv := HV.out
      have h := HS.out
      rw [List.take_of_length_le (by omega), List.take_of_length_le (by omega)] at h
      exact (decide_eq_true h).symm
theorem equal_ints {w : World} {v v' : Value} {zs ys : List Int} (h : IntsAt w .i64 v zs) (h' : IntsAt w .i64 v' ys) : Calls Tryd.prog 12 #[v, v'] w (Quiet (.bool (decide (zs = ys))) w) := by
  obtain ⟨a, cap, rfl, _, hmax, h0⟩ := h
  obtain ⟨a', cap', rfl, _, _, h0'⟩ := h'
  unfold maxLen at hmax
  by_cases hl : zs.length = ys.length
  · rcases h0 with rfl | ⟨b, off, rfl, _, hc⟩
    · have : ys = [] := List.length_eq_zero_iff.1 hl.symm
      subst this
      exact equal_nil _ _ _ _ _
    · rcases h0' with rfl | ⟨b', off', rfl, _, hc'⟩
      · have : zs = [] := List.length_eq_zero_iff.1 hl
        subst this
        exact equal_nil _ _ _ _ _
      · rw [← hl]
        exact equal_any b off zs.length cap zs b' off' cap' ys rfl hl.symm (by omega) w hc hc'
  · have hne : zs ≠ ys := fun h => hl (by rw [h])
    rw [decide_eq_false hne]
    exact equal_len _ _ _ _ _ _ hl _
theorem equal_same {w : World} {v v' : Value} {zs : List Int} (h : IntsAt w .i64 v zs) (h' : IntsAt w .i64 v' zs) : Calls Tryd.prog 12 #[v, v'] w (Quiet (.bool true) w) := by
  have := equal_ints h h'
  rwa [decide_eq_true rfl] at this
end Go.Proofs.YtpdlnijdcgcfbabDoor.Perm
