/-
  PermutationActs answers true.
-/
import Derived.Test.YtpdlnijdcgcfbabDoorEvBPermMoved
import Derived.Test.YtpdlnijdcgcfbabDoorEvBPermSet
import Derived.Test.YtpdlnijdcgcfbabDoorEvBSeat
namespace Go.Proofs.YtpdlnijdcgcfbabDoor.Perm
open Go Go.Ev Go.RowKit Go.Perm Go.Law
open Go.Proofs.YtpdlnijdcgcfbabDoor.Col (ret_int ret_bool ret_two)
open Go.Proofs.YtpdlnijdcgcfbabDoor.Ev

theorem block_lt {w : World} {b : Nat} {o : Obj} (h : w.heap[b]? = some o) : b < w.heap.size := by
  by_cases hb : b < w.heap.size
  · exact hb
  · rw [Array.getElem?_eq_none (by omega)] at h; cases h
theorem nil_ints (w : World) : IntsAt w .i64 (.slice none 0 0) [] := ⟨none, 0, rfl, Nat.le_refl _, by simp [maxLen], .inl rfl⟩
theorem _root_.Go.Law.IntsAt.below {w w' : World} {v : Value} {zs : List Int} (h : IntsAt w .i64 v zs) (hb : Below w.heap.size w w') : IntsAt w' .i64 v zs := by
  obtain ⟨a, cap, rfl, h1, h2, h0⟩ := h
  refine ⟨a, cap, rfl, h1, h2, h0.imp id ?_⟩
  rintro ⟨b, off, rfl, hlt, hc⟩
  exact ⟨b, off, rfl, Nat.lt_of_lt_of_le hlt hb.size, fun j hj => by rw [hb.cell hlt]; exact hc j hj⟩
theorem _root_.Go.Law.IntsAt.drewN {w : World} {v : Value} {zs : List Int} (h : IntsAt w .i64 v zs) (m : Nat) : IntsAt (w.drewN m) .i64 v zs := h.below (below_drewN (Below.refl _ _) m)

theorem vec_err (v u : Value) (c : Int) (hc0 : c ≠ 0) (w : World) (h : Calls Tryd.prog 30 #[v] w fun e w' => e = .returned (.int .i64 c) ∧ w = w') :
    Calls Tryd.prog 15 #[v, u] w (VecPost [] c w) := by
  have HI := Lib.hid h
  clear h
  have hb : (c != 0) = true := by simpa using hc0
  go_enter Tryd.func15, Tryd.ntmps15
  go_wp2_with (go_at_call 30; refine (HI.out).mono ?_; rintro e w' ⟨rfl, rfl⟩)
  go_ret2
  exact ⟨_, rfl, Below.refl _ _, nil_ints _⟩
theorem vec_shape (a a' : Option Addr) (len cap len' cap' : Nat) (hne : len' ≠ len) (w : World) (h : Calls Tryd.prog 30 #[.slice a len cap] w fun e w' => e = .returned (.int .i64 0) ∧ w = w') :
    Calls Tryd.prog 15 #[.slice a len cap, .slice a' len' cap'] w (VecPost [] 15 w) := by
  have HI := Lib.hid h
  clear h
  have hb : ((len' : Int) != (len : Int)) = true := by simpa using (by omega : (len' : Int) ≠ len)
  go_enter Tryd.func15, Tryd.ntmps15
  go_wp2_with (go_at_call 30; refine (HI.out).mono ?_; rintro e w' ⟨rfl, rfl⟩)
  go_ret2
  exact ⟨_, rfl, Below.refl _ _, nil_ints _⟩
/-! The four calls, at whatever can be read. -/
theorem check_ints {w : World} {v : Value} {zs : List Int} (h : IntsAt w .i64 v zs) : Calls Tryd.prog 30 #[v] w fun e w' => e = .returned (.int .i64 (check zs)) ∧ w = w' := by
  obtain ⟨a, cap, rfl, h1, h2, h0⟩ := h
  by_cases hl : zs.length < 1 ∨ 5 < zs.length
  · rw [check_len hl]; exact check_bad _ _ _ hl _
  · rcases h0 with rfl | ⟨b, off, rfl, hlt, hc⟩
    · simp at hl
    · exact check_any b off _ cap zs rfl (by omega) (by omega) h1 w hc
theorem rcheck_ints {w : World} {v : Value} {zs : List Int} (h : IntsAt w .i64 v zs) : Calls Tryd.prog 28 #[v] w (Quiet (.int .i64 (check zs)) w) := by
  obtain ⟨a, cap, rfl, h1, h2, h0⟩ := h
  by_cases hl : zs.length < 1 ∨ 5 < zs.length
  · rw [check_len hl]; exact rcheck_bad _ _ _ hl _
  · rcases h0 with rfl | ⟨b, off, rfl, hlt, hc⟩
    · simp at hl
    · exact rcheck_any b off _ cap zs rfl (by omega) (by omega) h1 w hc

def setR (zs : List Int) (S : Int) : Int × Int := if check zs ≠ 0 then (0, check zs) else if S < 0 ∨ 2 ^ zs.length ≤ S then (0, 2) else (img S.toNat zs 0 0, 0)
def vecR (zs vs : List Int) : List Int × Int := if check zs ≠ 0 then ([], check zs) else if vs.length ≠ zs.length then ([], 15) else (mv zs vs zs.length, 0)
theorem nat_lt_pow {S n : Nat} (h : ¬ (2 : Int) ^ n ≤ (S : Int)) : S < 2 ^ n := by
  have : (S : Int) < ((2 ^ n : Nat) : Int) := by push_cast; omega
  exact_mod_cast this
theorem set_ints {w : World} {v : Value} {zs : List Int} (h : IntsAt w .i64 v zs) (S : Int) : Calls Tryd.prog 14 #[v, .int .i64 S] w fun e w' => e = .returned (.tuple #[.int .i64 (setR zs S).1, .int .i64 (setR zs S).2]) ∧ w = w' := by
  have hk := check_ints h
  unfold setR
  by_cases h0 : check zs ≠ 0
  · rw [if_pos h0]; exact set_err v _ h0 S w hk
  · rw [if_neg h0]
    have h0' : check zs = 0 := Decidable.not_not.1 h0
    obtain ⟨g1, g5, _, _⟩ := check_ok h0'
    rw [h0'] at hk
    obtain ⟨a, cap, rfl, h1, h2, hc⟩ := h
    by_cases hS : S < 0 ∨ 2 ^ zs.length ≤ S
    · rw [if_pos hS]; exact set_range a _ cap g5 S hS w hk
    · rw [if_neg hS]
      obtain ⟨s, rfl⟩ := Int.eq_ofNat_of_zero_le (show 0 ≤ S by omega)
      rcases hc with rfl | ⟨b, off, rfl, hlt, hc⟩
      · simp at g1
      · exact set_any b off _ cap zs s rfl h0' h1 (nat_lt_pow (by omega)) w hc
theorem vec_ints {w : World} {v u : Value} {zs vs : List Int} (h : IntsAt w .i64 v zs) (g : IntsAt w .i64 u vs) : Calls Tryd.prog 15 #[v, u] w (VecPost (vecR zs vs).1 (vecR zs vs).2 w) := by
  have hk := check_ints h
  unfold vecR
  by_cases h0 : check zs ≠ 0
  · rw [if_pos h0]; exact vec_err v u _ h0 w hk
  · rw [if_neg h0]
    have h0' : check zs = 0 := Decidable.not_not.1 h0
    obtain ⟨g1, g5, _, _⟩ := check_ok h0'
    rw [h0'] at hk
    obtain ⟨a, cap, rfl, h1, h2, hc⟩ := h
    obtain ⟨a', cap', rfl, h1', h2', hc'⟩ := g
    by_cases hl : vs.length ≠ zs.length
    · rw [if_pos hl]; exact vec_shape _ _ _ _ _ _ hl w hk
    · rw [if_neg hl]
      have hl' : vs.length = zs.length := Decidable.not_not.1 hl
      rcases hc with rfl | ⟨b, off, rfl, hlt, hc⟩
      · simp at g1
      · rcases hc' with rfl | ⟨b', off', rfl, hlt', hc'⟩
        · simp at hl'; omega
        · rw [hl']; exact vec_any b off _ cap zs b' off' cap' vs rfl hl' h0' h1 w hc hc'
end Go.Proofs.YtpdlnijdcgcfbabDoor.Perm
