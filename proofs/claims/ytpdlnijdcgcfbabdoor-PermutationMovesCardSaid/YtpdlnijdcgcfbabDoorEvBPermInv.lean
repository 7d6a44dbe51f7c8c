/-
  The inverse of a permutation: the program's and the reference's.
-/
import Derived.Test.YtpdlnijdcgcfbabDoorEvBPermOwn
import Derived.Test.YtpdlnijdcgcfbabDoorEvBPermActs
namespace Go.Proofs.YtpdlnijdcgcfbabDoor.Perm
open Go Go.RowKit Go.Perm Go.Law
open Go.Proofs.YtpdlnijdcgcfbabDoor.Col (ret_int ret_bool ret_two)

set_option maxHeartbeats 800000 in
theorem inv_any (b off len cap : Nat) (zs : List Int) (hz : zs.length = len) (hok : check zs = 0) (hcap : len ≤ cap) (w : World) (hc : At w b off zs) :
    Calls Tryd.prog 11 #[.slice (some ⟨b, off, none⟩) len cap] w (VecPost (mv zs (ids len) len) 0 w) := by
  obtain ⟨h1, h5, hr, _⟩ := check_ok hok
  rw [hz] at h1 h5 hr
  have hb := hc.lt (by omega)
  have HR := Lib.hid hr
  have HC := Lib.hid hc
  have HO := Lib.hid hok
  have HZ := Lib.hid hz
  clear hr hc hok hz
  have HM := Lib.hid (Own.made w 3 (.int .i64 0) len)
  have hmk := make_ints len h5
  go_enter Tryd.func11, Tryd.ntmps11
  go_wp2_with (go_at_call 30; refine (check_any _ _ _ _ zs HZ.out (by omega) (by omega) hcap _ HC.out).mono ?_; rintro e w' ⟨rfl, rfl⟩; rw [HO.out])
  go_loopw [18] (fun i wr => ∃ k : Nat, k ≤ len ∧ i = .int .i64 k ∧ Below w.heap.size w wr ∧ Own wr w.heap.size 3 ((mv zs (ids len) k).map (Value.int .i64))) (fun i _ => len - (intOf i).toNat)
  case atStart => exact ⟨0, Nat.zero_le _, rfl, (Below.refl _ _).alloc (Nat.le_refl _) _, by rw [mv, ids_length, ← replicate_ints]; exact HM.out⟩
  case round =>
    obtain ⟨k, hk, rfl, hbl, hown⟩ := hrel
    have hz := HZ.out
    by_cases hlt : k < len
    · have hcell := (HC.out.below hbl hb) k (by omega)
      have hx := HR.out (zs.getD k 0) (getD_mem (by omega))
      have HE := Lib.hid (show mv zs (ids len) (k + 1) = (mv zs (ids len) k).set (zs.getD k 0).toNat (k : Int) by rw [mv, ids_getD hlt])
      have hl : (mv zs (ids len) k).length = len := by rw [mv_length, ids_length]
      generalize zs.getD k 0 = x at *
      obtain ⟨hx0, hx1⟩ := hx
      obtain ⟨q, rfl⟩ := Int.eq_ofNat_of_zero_le hx0
      have hoc : wr.cell? ⟨w.heap.size, q, none⟩ = some (.int .i64 ((mv zs (ids len) k).getD q 0)) := by have := hown.at q (by omega); simpa using this
      have hfr := hown.free q
      have HOW := Lib.hid hown
      have HBL := Lib.hid hbl
      clear hz hown hl hbl
      go_wp2
      go_roundw
      case rel => exact ⟨k + 1, by omega, by go_num, HBL.out.setCell (by simp) _, by rw [HE.out, List.map_set]; exact HOW.out.set q _⟩
      case measure => simp [intOf]; omega
    · have HOW := Lib.hid hown
      have HBL := Lib.hid hbl
      clear hz hown hbl
      go_wp2
      go_ret2
      have hk' : k = len := by omega
      subst hk'
      exact ⟨_, rfl, HBL.out, own_ints HOW.out (by rw [mv_length, ids_length]) h5⟩

theorem inv_err (v : Value) (c : Int) (hc0 : c ≠ 0) (w : World) (h : Calls Tryd.prog 30 #[v] w fun e w' => e = .returned (.int .i64 c) ∧ w = w') :
    Calls Tryd.prog 11 #[v] w (VecPost [] c w) := by
  have HI := Lib.hid h
  clear h
  have hb : (c != 0) = true := by simpa using hc0
  go_enter Tryd.func11, Tryd.ntmps11
  go_wp2_with (go_at_call 30; refine (HI.out).mono ?_; rintro e w' ⟨rfl, rfl⟩)
  go_ret2
  exact ⟨_, rfl, Below.refl _ _, nil_ints _⟩
def invR (zs : List Int) : List Int × Int := if check zs ≠ 0 then ([], check zs) else (mv zs (ids zs.length) zs.length, 0)
theorem inv_ints {w : World} {v : Value} {zs : List Int} (h : IntsAt w .i64 v zs) : Calls Tryd.prog 11 #[v] w (VecPost (invR zs).1 (invR zs).2 w) := by
  have hk := check_ints h
  unfold invR
  by_cases h0 : check zs ≠ 0
  · rw [if_pos h0]; exact inv_err v _ h0 w hk
  · rw [if_neg h0]
    have h0' : check zs = 0 := Decidable.not_not.1 h0
    obtain ⟨g1, g5, _, _⟩ := check_ok h0'
    obtain ⟨a, cap, rfl, h1, h2, hc⟩ := h
    rcases hc with rfl | ⟨b, off, rfl, hlt, hc⟩
    · simp at g1
    · exact inv_any b off _ cap zs rfl h0' h1 w hc
end Go.Proofs.YtpdlnijdcgcfbabDoor.Perm
