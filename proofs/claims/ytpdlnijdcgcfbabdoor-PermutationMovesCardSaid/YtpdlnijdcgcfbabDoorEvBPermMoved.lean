/-
  The moved vector of the reference; errors; equal lists.
-/
import Derived.Test.YtpdlnijdcgcfbabDoorEvBPermRef
import Derived.StillTailTactics
namespace Go.Proofs.YtpdlnijdcgcfbabDoor.Perm
open Go Go.RowKit Go.Perm Go.Law
open Go.Proofs.YtpdlnijdcgcfbabDoor.Col (ret_int ret_bool ret_two)

theorem info3 : (Tryd.prog.info? 3).map (fun i => (i.zero, i.size, i.bytes)) = some (some (.int .i64 0), 1, 8) := by kernel_rfl
theorem make_ints (n : Nat) (hn : n ≤ 5) (W : World) : (Instr.makeSlice 22 (.int .i64 (n : Int)) (.int .i64 (n : Int))).run Tryd.prog W = .ok (.slice (some ⟨W.heap.size, 0, none⟩) n n) (W.alloc (.cells (madeCells #[.int .i64 0] n) 3)) := by
  obtain ⟨i0, hi, hz0, hz1, hz2⟩ := info_parts info3
  have := run_make (P := Tryd.prog) W 22 3 i0 (.int .i64 0) Tryd.underlying22 hi hz0 .i64 .i64 (n : Int) (n : Int) (by omega) (by omega) (by rw [hz2]; omega) (by omega)
  rw [this, hz1]
  simp [Value.cells]
theorem replicate_ints (n : Nat) : List.replicate n (Value.int .i64 0) = (List.replicate n (0 : Int)).map (Value.int .i64) := by simp

/-- A list of its own, with a number. -/
def VecPost (zs : List Int) (c : Int) (W : World) (e : Ending) (w' : World) : Prop := ∃ v, e = .returned (.tuple #[v, .int .i64 c]) ∧ Below W.heap.size W w' ∧ IntsAt w' .i64 v zs
theorem own_ints {w : World} {B n : Nat} {zs : List Int} (h : Own w B 3 (zs.map (Value.int .i64))) (hn : zs.length = n) (h5 : n ≤ 5) : IntsAt w .i64 (.slice (some ⟨B, 0, none⟩) n n) zs := by
  subst hn
  exact ⟨_, _, rfl, Nat.le_refl _, by unfold maxLen; omega, .inr ⟨B, 0, rfl, h.lt, h.at⟩⟩

set_option maxHeartbeats 800000 in
theorem vec_any (b off len cap : Nat) (zs : List Int) (b1 off1 cap1 : Nat) (vs : List Int) (hz : zs.length = len) (hv : vs.length = len) (hok : check zs = 0) (hcap : len ≤ cap) (w : World) (hc : At w b off zs) (hd : At w b1 off1 vs) :
    Calls Tryd.prog 15 #[.slice (some ⟨b, off, none⟩) len cap, .slice (some ⟨b1, off1, none⟩) len cap1] w (VecPost (mv zs vs len) 0 w) := by
  obtain ⟨h1, h5, hr, _⟩ := check_ok hok
  rw [hz] at h1 h5 hr
  have hb := hc.lt (by omega)
  have hb1 := hd.lt (by omega)
  have HR := Lib.hid hr
  have HC := Lib.hid hc
  have HD := Lib.hid hd
  have HO := Lib.hid hok
  have HZ := Lib.hid hz
  have HV := Lib.hid hv
  clear hr hc hd hok hz hv
  have HM := Lib.hid (Own.made w 3 (.int .i64 0) len)
  have hmk := make_ints len h5
  go_enter Tryd.func15, Tryd.ntmps15
  go_wp2_with (go_at_call 30; refine (check_any _ _ _ _ zs HZ.out (by omega) (by omega) hcap _ HC.out).mono ?_; rintro e w' ⟨rfl, rfl⟩; rw [HO.out])
  go_loopw [25] (fun i wr => ∃ k : Nat, k ≤ len ∧ i = .int .i64 k ∧ Below w.heap.size w wr ∧ Own wr w.heap.size 3 ((mv zs vs k).map (Value.int .i64))) (fun i _ => len - (intOf i).toNat)
  case atStart => exact ⟨0, Nat.zero_le _, rfl, (Below.refl _ _).alloc (Nat.le_refl _) _, by rw [mv, HV.out, ← replicate_ints]; exact HM.out⟩
  case round =>
    obtain ⟨k, hk, rfl, hbl, hown⟩ := hrel
    have hz := HZ.out
    have hv := HV.out
    by_cases hlt : k < len
    · have hcell := (HC.out.below hbl hb) k (by omega)
      have hcell1 := (HD.out.below hbl hb1) k (by omega)
      have hx := HR.out (zs.getD k 0) (getD_mem (by omega))
      have HE := Lib.hid (show mv zs vs (k + 1) = (mv zs vs k).set (zs.getD k 0).toNat (vs.getD k 0) from rfl)
      have hl : (mv zs vs k).length = len := by rw [mv_length]; exact hv
      generalize zs.getD k 0 = x at *
      generalize vs.getD k 0 = y at *
      obtain ⟨hx0, hx1⟩ := hx
      obtain ⟨q, rfl⟩ := Int.eq_ofNat_of_zero_le hx0
      have hoc : wr.cell? ⟨w.heap.size, q, none⟩ = some (.int .i64 ((mv zs vs k).getD q 0)) := by have := hown.at q (by omega); simpa using this
      have hfr := hown.free q
      have HOW := Lib.hid hown
      have HBL := Lib.hid hbl
      clear hz hv hown hl hbl
      go_wp2
      go_roundw
      case rel => exact ⟨k + 1, by omega, by go_num, HBL.out.setCell (by simp) _, by rw [HE.out, List.map_set]; exact HOW.out.set q _⟩
      case measure => simp [intOf]; omega
    · have HOW := Lib.hid hown
      have HBL := Lib.hid hbl
      clear hz hv hown hbl
      go_wp2
      go_ret2
      have hk' : k = len := by omega
      subst hk'
      exact ⟨_, rfl, HBL.out, own_ints HOW.out (by rw [mv_length]; exact HV.out) h5⟩
end Go.Proofs.YtpdlnijdcgcfbabDoor.Perm
namespace Go.Proofs.YtpdlnijdcgcfbabDoor.Perm
open Go Go.RowKit Go.Perm Go.Law
open Go.Proofs.YtpdlnijdcgcfbabDoor.Col (ret_int ret_bool ret_two)

def OnePost (zs : List Int) (W : World) (e : Ending) (w' : World) : Prop := ∃ v, e = .returned v ∧ Below W.heap.size W w' ∧ IntsAt w' .i64 v zs
/-! Equal lists. -/
theorem equal_len (a a' : Option Addr) (l c l' c' : Nat) (h : l ≠ l') (w : World) : Calls Tryd.prog 12 #[.slice a l c, .slice a' l' c'] w (Quiet (.bool false) w) := by
  have hb : ((l : Int) != (l' : Int)) = true := by simpa using (by omega : (l : Int) ≠ l')
  go_enter Tryd.func12, Tryd.ntmps12
  go_wp2
  go_ret
  exact ⟨rfl, 0, rfl⟩
theorem equal_nil (a a' : Option Addr) (c c' : Nat) (w : World) : Calls Tryd.prog 12 #[.slice a 0 c, .slice a' 0 c'] w (Quiet (.bool true) w) := by
  go_enter Tryd.func12, Tryd.ntmps12
  go_wp2
  go_loop [13] (fun i => i = .int .i64 0) (fun _ => 0)
  case atStart => exact rfl
  case round =>
    obtain rfl := hrel
    go_wp2
    go_ret
    exact ⟨rfl, 0, rfl⟩
theorem eq_take_succ {zs ys : List Int} {k : Nat} (h1 : k < zs.length) (h2 : k < ys.length) (h : zs.take k = ys.take k) (hx : zs.getD k 0 = ys.getD k 0) : zs.take (k + 1) = ys.take (k + 1) := by
  rw [take_snoc h1, take_snoc h2, h, hx]
set_option maxHeartbeats 800000 in
theorem equal_any (b off len cap : Nat) (zs : List Int) (b1 off1 cap1 : Nat) (ys : List Int) (hz : zs.length = len) (hv : ys.length = len) (hlen : len ≤ 9223372036854775807) (w : World) (hc : At w b off zs) (hd : At w b1 off1 ys) :
    Calls Tryd.prog 12 #[.slice (some ⟨b, off, none⟩) len cap, .slice (some ⟨b1, off1, none⟩) len cap1] w (Quiet (.bool (decide (zs = ys))) w) := by
  have HC := Lib.hid hc
  have HD := Lib.hid hd
  have HZ := Lib.hid hz
  have HV := Lib.hid hv
  clear hc hd hz hv
  go_enter Tryd.func12, Tryd.ntmps12
  go_wp2
  go_loopw [13] (fun i wr => ∃ k m : Nat, k ≤ len ∧ i = .int .i64 k ∧ wr = w.drewN m ∧ zs.take k = ys.take k) (fun i _ => len - (intOf i).toNat)
  case atStart => exact ⟨0, 0, Nat.zero_le _, rfl, rfl, rfl⟩
  case round =>
    obtain ⟨k, m, hk, rfl, rfl, hsame⟩ := hrel
    have HS := Lib.hid hsame
    clear hsame
    have hz := HZ.out
    have hv := HV.out
    by_cases hlt : k < len
    · have hcell := HC.out k (by omega)
      have hcell1 := HD.out k (by omega)
      have HT := Lib.hid (eq_take_succ (zs := zs) (ys := ys) (k := k) (by omega) (by omega) HS.out)
      have HG : Hid (zs = ys → zs.getD k 0 = ys.getD k 0) := Lib.hid (fun h => by rw [h])
      generalize zs.getD k 0 = x at *
      generalize ys.getD k 0 = y at *
      clear hz hv
      by_cases hxy : x = y
      · have hb : (x != y) = false := by simpa using hxy
        have HX := Lib.hid hxy
        clear hxy
        go_wp2
        go_quiet (fail)
        go_wp2
        exact ⟨⟨k + 1, m + nq, by omega, by go_num, rfl, HT.out HX.out⟩, by simp [intOf]; omega⟩
      · have hb : (x != y) = true := by simpa using hxy
        have HX := Lib.hid hxy
        clear hxy
        go_wp2
        go_quiet (fail)
        go_wp2
        go_ret
        refine ⟨ret_bool ?_, m + nq, by rw [World.drewN_drewN]⟩
        exact (decide_eq_false fun h => HX.out (HG.out h)).symm
    · clear hz hv
      go_wp2
      go_ret
      refine ⟨ret_bool ?_, m, rfl⟩
      have hz := HZ.out
      have hv := HV.out
      have h := HS.out
      rw [List.take_of_length_le (by omega), List.take_of_length_le (by omega)] at h
      exact (decide_eq_true h).symm
theorem equal_ints {w : World} {v v' : Value} {zs ys : List Int} (h : IntsAt w .i64 v zs) (h' : IntsAt w .i64 v' ys) : Calls Tryd.prog 12 #[v, v'] w (Quiet (.bool (decide (zs = ys))) w) := by
  obtain ⟨a, cap, rfl, _, hmax, h0⟩ := h
  obtain ⟨a', cap', rfl, _, _, h0'⟩ := h'
  unfold maxLen at hmax
  by_cases hl : zs.length = ys.length
  · rcases h0 with rfl | ⟨b, off, rfl, _, hc⟩
    · have : ys = [] := List.length_eq_zero_iff.1 hl.symm
      subst this
      exact equal_nil _ _ _ _ _
    · rcases h0' with rfl | ⟨b', off', rfl, _, hc'⟩
      · have : zs = [] := List.length_eq_zero_iff.1 hl
        subst this
        exact equal_nil _ _ _ _ _
      · rw [← hl]
        exact equal_any b off zs.length cap zs b' off' cap' ys rfl hl.symm (by omega) w hc hc'
  · have hne : zs ≠ ys := fun h => hl (by rw [h])
    rw [decide_eq_false hne]
    exact equal_len _ _ _ _ _ _ hl _
theorem equal_same {w : World} {v v' : Value} {zs : List Int} (h : IntsAt w .i64 v zs) (h' : IntsAt w .i64 v' zs) : Calls Tryd.prog 12 #[v, v'] w (Quiet (.bool true) w) := by
  have := equal_ints h h'
  rwa [decide_eq_true rfl] at this
end Go.Proofs.YtpdlnijdcgcfbabDoor.Perm
