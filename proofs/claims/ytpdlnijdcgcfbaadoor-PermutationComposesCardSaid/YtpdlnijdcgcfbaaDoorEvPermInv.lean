/-
  The inverse of a permutation: the program's and the reference's.
-/
import Derived.Test.YtpdlnijdcgcfbaaDoorEvPermOwn
import Derived.Test.YtpdlnijdcgcfbaaDoorEvPermActs
namespace Go.Proofs.YtpdlnijdcgcfbaaDoor.Perm
open Go Go.RowKit Go.Perm Go.Law
open Go.Proofs.YtpdlnijdcgcfbaaDoor.Col (ret_int ret_bool ret_two)

set_option maxHeartbeats 800000 in
theorem inv_any (b off len cap : Nat) (zs : List Int) (hz : zs.length = len) (hok : check zs = 0) (hcap : len ≤ cap) (w : World) (hc : At w b off zs) :
    Calls Tryd.prog 43 #[.slice (some ⟨b, off, none⟩) len cap] w (VecPost (mv zs (ids len) len) 0 w) := by
  obtain ⟨h1, h5, hr, _⟩ := check_ok hok
  rw [hz] at h1 h5 hr
  have hb := hc.lt (by omega)
  have HR := Lib.hid hr
  have HC := Lib.hid hc
  have HO := Lib.hid hok
  have HZ := Lib.hid hz
  clear hr hc hok hz
  have HM := Lib.hid (Own.made w 3 (.int .i64 0) len)
  have hmk := make_ints len h5
  go_enter Tryd.func43, Tryd.ntmps43
  go_wp2_with (go_at_call 49; refine (check_any _ _ _ _ zs HZ.out (by omega) (by omega) hcap _ HC.out).mono ?_; rintro e w' ⟨rfl, rfl⟩; rw [HO.out])
  go_loopw [18] (fun i wr => ∃ k : Nat, k ≤ len ∧ i = .int .i64 k ∧ Below w.heap.size w wr ∧ Own wr w.heap.size 3 ((mv zs (ids len) k).map (Value.int .i64))) (fun i _ => len - (intOf i).toNat)
  case atStart => exact ⟨0, Nat.zero_le _, rfl, (Below.refl _ _).alloc (Nat.le_refl _) _, by rw [mv, ids_length, ← replicate_ints]; exact HM.out⟩
  case round =>
    obtain ⟨k, hk, rfl, hbl, hown⟩ := hrel
    have hz := HZ.out
    by_cases hlt : k < len
    · have hcell := (HC.out.below hbl hb) k (by omega)
      have hx := HR.out (zs.getD k 0) (getD_mem (by omega))
      have HE := Lib.hid (show mv zs (ids len) (k + 1) = (mv zs (ids len) k).set (zs.getD k 0).toNat (k : Int) by rw [mv, ids_getD hlt])
      have hl : (mv zs (ids len) k).length = len := by rw [mv_length, ids_length]
      generalize zs.getD k 0 = x at *
      obtain ⟨hx0, hx1⟩ := hx
      obtain ⟨q, rfl⟩ := Int.eq_ofNat_of_zero_le hx0
      have hoc : wr.cell? ⟨w.heap.size, q, none⟩ = some (.int .i64 ((mv zs (ids len) k).getD q 0)) := by have := hown.at q (by omega); simpa using this
      have hfr := hown.free q
      have HOW := Lib.hid hown
      have HBL := Lib.hid hbl
      clear hz hown hl hbl
      go_wp2
      go_roundw
      case rel => exact ⟨k + 1, by omega, by go_num, HBL.out.setCell (by simp) _, by rw [HE.out, List.map_set]; exact HOW.out.set q _⟩
      case measure => simp [intOf]; omega
    · have HOW := Lib.hid hown
      have HBL := Lib.hid hbl
      clear hz hown hbl
      go_wp2
      go_ret2
      have hk' : k = len := by omega
      subst hk'
      exact ⟨_, rfl, HBL.out, own_ints HOW.out (by rw [mv_length, ids_length]) h5⟩

set_option maxHeartbeats 800000 in
theorem back_any (b off len cap : Nat) (zs : List Int) (hz : zs.length = len) (hok : check zs = 0) (w : World) (hc : At w b off zs) :
    Calls Tryd.prog 92 #[.slice (some ⟨b, off, none⟩) len cap] w (OnePost (mv zs (ids len) len) w) := by
  obtain ⟨h1, h5, hr, _⟩ := check_ok hok
  rw [hz] at h1 h5 hr
  have hb := hc.lt (by omega)
  have HR := Lib.hid hr
  have HC := Lib.hid hc
  have HZ := Lib.hid hz
  clear hr hc hok hz
  have HM := Lib.hid (Own.made w 3 (.int .i64 0) len)
  have hmk := make_ints len h5
  go_enter Tryd.func92, Tryd.ntmps92
  go_wp2
  go_loopw [4] (fun i wr => ∃ k : Nat, k ≤ len ∧ i = .int .i64 k ∧ Below w.heap.size w wr ∧ Own wr w.heap.size 3 ((mv zs (ids len) k).map (Value.int .i64))) (fun i _ => len - (intOf i).toNat)
  case atStart => exact ⟨0, Nat.zero_le _, rfl, (Below.refl _ _).alloc (Nat.le_refl _) _, by rw [mv, ids_length, ← replicate_ints]; exact HM.out⟩
  case round =>
    obtain ⟨k, hk, rfl, hbl, hown⟩ := hrel
    have hz := HZ.out
    by_cases hlt : k < len
    · have hcell := (HC.out.below hbl hb) k (by omega)
      have hx := HR.out (zs.getD k 0) (getD_mem (by omega))
      have HE := Lib.hid (show mv zs (ids len) (k + 1) = (mv zs (ids len) k).set (zs.getD k 0).toNat (k : Int) by rw [mv, ids_getD hlt])
      have hl : (mv zs (ids len) k).length = len := by rw [mv_length, ids_length]
      generalize zs.getD k 0 = x at *
      obtain ⟨hx0, hx1⟩ := hx
      obtain ⟨q, rfl⟩ := Int.eq_ofNat_of_zero_le hx0
      have hoc : wr.cell? ⟨w.heap.size, q, none⟩ = some (.int .i64 ((mv zs (ids len) k).getD q 0)) := by have := hown.at q (by omega); simpa using this
      have hfr := hown.free q
      have HOW := Lib.hid hown
      have HBL := Lib.hid hbl
      clear hz hown hl hbl
      go_wp2
      go_roundw
      case rel => exact ⟨k + 1, by omega, by go_num, HBL.out.setCell (by simp) _, by rw [HE.out, List.map_set]; exact HOW.out.set q _⟩
      case measure => simp [intOf]; omega
    · have HOW := Lib.hid hown
      have HBL := Lib.hid hbl
      clear hz hown hbl
      go_wp2
      go_ret
      have hk' : k = len := by omega
      subst hk'
      exact ⟨_, rfl, HBL.out, own_ints HOW.out (by rw [mv_length, ids_length]) h5⟩

theorem rinv_any (b off len cap : Nat) (zs : List Int) (hz : zs.length = len) (hok : check zs = 0) (hcap : len ≤ cap) (w : World) (hc : At w b off zs) :
    Calls Tryd.prog 44 #[.slice (some ⟨b, off, none⟩) len cap] w (VecPost (mv zs (ids len) len) 0 w) := by
  obtain ⟨h1, h5, _, _⟩ := check_ok hok
  rw [hz] at h1 h5
  have HC := Lib.hid hc
  have HO := Lib.hid hok
  have HZ := Lib.hid hz
  clear hc hok hz
  go_enter Tryd.func44, Tryd.ntmps44
  go_wp2_with (first | (go_at_call 50; refine (rcheck_any _ _ _ _ zs HZ.out (by omega) (by omega) hcap _ HC.out).mono ?_; rintro e w' ⟨rfl, m, rfl⟩; rw [HO.out]) | (go_at_call 92; refine (back_any _ _ _ _ zs HZ.out HO.out _ (HC.out.drewN _)).mono ?_; rintro e w' ⟨v, rfl, hb, hi⟩; have HB := Lib.hid hb; have HI := Lib.hid hi; clear hb hi))
  go_ret2
  exact ⟨_, rfl, ((below_drewN (Below.refl _ _) m).trans (HB.out.mono (by simp))), HI.out⟩
theorem inv_err (v : Value) (c : Int) (hc0 : c ≠ 0) (w : World) (h : Calls Tryd.prog 49 #[v] w fun e w' => e = .returned (.int .i64 c) ∧ w = w') :
    Calls Tryd.prog 43 #[v] w (VecPost [] c w) := by
  have HI := Lib.hid h
  clear h
  have hb : (c != 0) = true := by simpa using hc0
  go_enter Tryd.func43, Tryd.ntmps43
  go_wp2_with (go_at_call 49; refine (HI.out).mono ?_; rintro e w' ⟨rfl, rfl⟩)
  go_ret2
  exact ⟨_, rfl, Below.refl _ _, nil_ints _⟩
theorem rinv_err (v : Value) (c : Int) (hc0 : c ≠ 0) (w : World) (h : Calls Tryd.prog 50 #[v] w (Quiet (.int .i64 c) w)) :
    Calls Tryd.prog 44 #[v] w (VecPost [] c w) := by
  have HI := Lib.hid h
  clear h
  have hb : (c != 0) = true := by simpa using hc0
  go_enter Tryd.func44, Tryd.ntmps44
  go_wp2_with (go_at_call 50; refine (HI.out).mono ?_; rintro e w' ⟨rfl, m, rfl⟩)
  go_ret2
  exact ⟨_, rfl, below_drewN (Below.refl _ _) _, nil_ints _⟩
def invR (zs : List Int) : List Int × Int := if check zs ≠ 0 then ([], check zs) else (mv zs (ids zs.length) zs.length, 0)
theorem inv_ints {w : World} {v : Value} {zs : List Int} (h : IntsAt w .i64 v zs) : Calls Tryd.prog 43 #[v] w (VecPost (invR zs).1 (invR zs).2 w) := by
  have hk := check_ints h
  unfold invR
  by_cases h0 : check zs ≠ 0
  · rw [if_pos h0]; exact inv_err v _ h0 w hk
  · rw [if_neg h0]
    have h0' : check zs = 0 := Decidable.not_not.1 h0
    obtain ⟨g1, g5, _, _⟩ := check_ok h0'
    obtain ⟨a, cap, rfl, h1, h2, hc⟩ := h
    rcases hc with rfl | ⟨b, off, rfl, hlt, hc⟩
    · simp at g1
    · exact inv_any b off _ cap zs rfl h0' h1 w hc
theorem rinv_ints {w : World} {v : Value} {zs : List Int} (h : IntsAt w .i64 v zs) : Calls Tryd.prog 44 #[v] w (VecPost (invR zs).1 (invR zs).2 w) := by
  have hk := rcheck_ints h
  unfold invR
  by_cases h0 : check zs ≠ 0
  · rw [if_pos h0]; exact rinv_err v _ h0 w hk
  · rw [if_neg h0]
    have h0' : check zs = 0 := Decidable.not_not.1 h0
    obtain ⟨g1, g5, _, _⟩ := check_ok h0'
    obtain ⟨a, cap, rfl, h1, h2, hc⟩ := h
    rcases hc with rfl | ⟨b, off, rfl, hlt, hc⟩
    · simp at g1
    · exact rinv_any b off _ cap zs rfl h0' h1 w hc
end Go.Proofs.YtpdlnijdcgcfbaaDoor.Perm
