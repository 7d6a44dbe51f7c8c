/-
  The number of classes: the program's and the reference's.
-/
import Derived.Test.YtlacohjecehpiaaEvPaFew
namespace Go.Proofs.Ytlacohjecehpiaa.Part
open Go Go.RowKit Go.Part Go.Law Go.Maps

/-- The number of classes. -/
def cN (l : List Int) : Nat := cnt (fn l) l.length
theorem wf_nat {l : List Int} (h : wf l) {i : Nat} (hi : i < l.length) : ∃ x : Nat, l.getD i 0 = (x : Int) ∧ x < cN l := ⟨_, wf_getD h hi, lab_lt _ hi⟩
theorem top_is {l : List Int} (h : wf l) {m : Nat} (h1 : ∀ j, j < l.length → l.getD j 0 ≤ (m : Int)) (h2 : ∃ j, j < l.length ∧ l.getD j 0 = (m : Int)) : m + 1 = cN l := by
  obtain ⟨j, hj, e⟩ := h2
  obtain ⟨x, hx, hlt⟩ := wf_nat h hj
  obtain ⟨q, hq, hl⟩ := lab_onto (fn l) (n := l.length) (v := cN l - 1) (by unfold cN at *; omega)
  have := h1 q hq
  rw [wf_getD h hq, hl] at this
  omega
theorem top_is' {l : List Int} (h : wf l) {m : Nat} (h1 : ∀ j, j < l.length → l.getD j 0 < (m : Int)) (h2 : m = 0 ∨ ∃ j, j < l.length ∧ l.getD j 0 + 1 = (m : Int)) : m = cN l := by
  rcases h2 with rfl | ⟨j, hj, e⟩
  · by_cases h0 : l.length = 0
    · unfold cN; rw [h0]; rfl
    · have := h1 0 (by omega)
      obtain ⟨x, hx, _⟩ := wf_nat h (show 0 < l.length by omega)
      omega
  · obtain ⟨x, hx, _⟩ := wf_nat h hj
    have hm : m = x + 1 := by omega
    subst hm
    exact top_is h (m := x) (fun j hj => by have := h1 j hj; omega) ⟨j, hj, hx⟩
theorem below_succ {P : Nat → Prop} {k : Nat} (h : ∀ j, j < k → P j) (hk : P k) : ∀ j, j < k + 1 → P j := fun j hj => by
  by_cases e : j = k
  · rw [e]; exact hk
  · exact h j (by omega)
set_option maxHeartbeats 1000000 in
theorem max_some (b off len cap : Nat) (l : List Int) (hz : l.length = len) (h0 : 0 < len) (hl : len ≤ 65536) (hw : wf l) (w : World) (hc : At w b off l) :
    Calls Try.prog 72 #[.slice (some ⟨b, off, none⟩) len cap] w fun e w' => e = .returned (.int .i64 ((cN l : Int) - 1)) ∧ w = w' := by
  have HC := Lib.hid hc
  have HW := Lib.hid hw
  have HZ := Lib.hid hz
  have hcell := hc 0 (by omega)
  obtain ⟨x0, hx0, hxl⟩ := wf_nat hw (show 0 < l.length by omega)
  rw [hx0, Nat.add_zero] at hcell
  have HX0 := Lib.hid hx0
  have hcn : cN l ≤ len := by have := cnt_le (fn l) l.length; unfold cN; omega
  clear hc hw hz hx0
  go_enter Try.func72, Try.ntmps72
  go_wp2
  go_loop [3, 4] (fun t i => ∃ k m : Nat, 1 ≤ k ∧ k ≤ len ∧ m < cN l ∧ i = .int .i64 k ∧ t = .int .i64 m ∧ (∀ j, j < k → l.getD j 0 ≤ (m : Int)) ∧ ∃ j, j < k ∧ l.getD j 0 = (m : Int)) (fun _ i => len - (intOf i).toNat)
  case atStart => exact ⟨1, x0, by omega, by omega, hxl, rfl, rfl, fun j hj => by rw [show j = 0 by omega, HX0.out]; omega, 0, by omega, HX0.out⟩
  case round =>
    obtain ⟨k, m, hk1, hk, hm, rfl, rfl, ha, hb⟩ := hrel
    have HA := Lib.hid ha
    have HB := Lib.hid hb
    clear ha hb hcell
    by_cases hlt : k < len
    · have hcell := HC.out k (by have := HZ.out; omega)
      obtain ⟨x, hx, hxl2⟩ := wf_nat HW.out (show k < l.length by have := HZ.out; omega)
      rw [hx] at hcell
      have HX := Lib.hid hx
      clear hx
      by_cases hxm : m < x
      · go_wp2
        go_round
        case rel => exact ⟨k + 1, x, by omega, by omega, hxl2, by go_num, by first | rfl | go_num | (congr 1; omega), below_succ (fun j hj => by have := HA.out j hj; omega) (by rw [HX.out]; omega), k, by omega, HX.out⟩
        case measure => simp [intOf]; omega
      · go_wp2
        go_round
        case rel => exact ⟨k + 1, m, by omega, by omega, hm, by go_num, by first | rfl | go_num | (congr 1; omega), below_succ (fun j hj => by have := HA.out j hj; omega) (by rw [HX.out]; omega), (by obtain ⟨j, hj, e⟩ := HB.out; exact ⟨j, by omega, e⟩)⟩
        case measure => simp [intOf]; omega
    · go_wp2
      go_ret
      have hk' : k = l.length := by have := HZ.out; omega
      have := top_is HW.out (m := m) (by rw [← hk']; exact HA.out) (by rw [← hk']; exact HB.out)
      exact ⟨ret_int (by omega), rfl⟩
theorem count_any {w : World} {v : Value} {l : List Int} (h : IntsAt w .i64 v l) (hl : ¬ 65536 < l.length) (hw : wf l) : Calls Try.prog 47 #[v] w fun e w' => e = .returned (.int .i64 (cN l)) ∧ w = w' := by
  obtain ⟨a, cap, rfl, h1, h2, h3⟩ := h
  rcases h3 with rfl | ⟨b, off, rfl, hb, hc⟩
  · go_enter Try.func47, Try.ntmps47
    go_wp2
    go_ret
    exact ⟨rfl, rfl⟩
  · by_cases h0 : l.length = 0
    · have : l = [] := List.length_eq_zero_iff.1 h0
      subst this
      go_enter Try.func47, Try.ntmps47
      go_wp2
      go_ret
      exact ⟨rfl, rfl⟩
    · have HM := Lib.hid (max_some b off _ cap l rfl (by omega) (by omega) hw w hc)
      have hcn : cN l ≤ l.length := cnt_le _ _
      have e0 : ((l.length : Int) == 0) = false := beq_eq_false_iff_ne.2 (by omega)
      have e1 : (l.length == 0) = false := by simpa using h0
      clear h0 hc
      go_enter Try.func47, Try.ntmps47
      go_wp2_with (go_at_call 72; ((with_reducible refine (HM.out).mono ?_); rintro e w' ⟨rfl, rfl⟩))
      go_ret
      exact ⟨ret_int (by first | omega | (rw [wrap64_id]; omega) | go_num), rfl⟩

set_option maxHeartbeats 1000000 in
theorem number_some (b off len cap : Nat) (l : List Int) (hz : l.length = len) (hl : len ≤ 65536) (hw : wf l) (w : World) (hc : At w b off l) :
    Calls Try.prog 48 #[.slice (some ⟨b, off, none⟩) len cap] w fun e w' => e = .returned (.int .i64 (cN l)) ∧ w = w' := by
  have HC := Lib.hid hc
  have HW := Lib.hid hw
  have HZ := Lib.hid hz
  have hcn : cN l ≤ len := by have := cnt_le (fn l) l.length; unfold cN; omega
  clear hc hw hz
  go_enter Try.func48, Try.ntmps48
  go_wp2
  go_loop [3, 4] (fun t i => ∃ k m : Nat, k ≤ len ∧ m ≤ cN l ∧ i = .int .i64 k ∧ t = .int .i64 m ∧ (∀ j, j < k → l.getD j 0 < (m : Int)) ∧ (m = 0 ∨ ∃ j, j < k ∧ l.getD j 0 + 1 = (m : Int))) (fun _ i => len - (intOf i).toNat)
  case atStart => exact ⟨0, 0, by omega, by omega, rfl, rfl, fun j hj => absurd hj (by omega), .inl rfl⟩
  case round =>
    obtain ⟨k, m, hk, hm, rfl, rfl, ha, hb⟩ := hrel
    have HA := Lib.hid ha
    have HB := Lib.hid hb
    clear ha hb
    by_cases hlt : k < len
    · have hcell := HC.out k (by have := HZ.out; omega)
      obtain ⟨x, hx, hxl2⟩ := wf_nat HW.out (show k < l.length by have := HZ.out; omega)
      rw [hx] at hcell
      have HX := Lib.hid hx
      clear hx
      by_cases hxm : m < x + 1
      · go_wp2
        go_round
        case rel => exact ⟨k + 1, x + 1, by omega, by omega, by go_num, by first | rfl | go_num | (congr 1; omega), below_succ (fun j hj => by have := HA.out j hj; omega) (by rw [HX.out]; omega), .inr ⟨k, by omega, by rw [HX.out]; omega⟩⟩
        case measure => simp [intOf]; omega
      · go_wp2
        go_round
        case rel => exact ⟨k + 1, m, by omega, hm, by go_num, by first | rfl | go_num | (congr 1; omega), below_succ (fun j hj => by have := HA.out j hj; omega) (by rw [HX.out]; omega), HB.out.imp id (fun ⟨j, hj, e⟩ => ⟨j, by omega, e⟩)⟩
        case measure => simp [intOf]; omega
    · go_wp2
      go_ret
      have hk' : k = l.length := by have := HZ.out; omega
      have := top_is' HW.out (m := m) (by rw [← hk']; exact HA.out) (by rw [← hk']; exact HB.out)
      exact ⟨ret_int (by omega), rfl⟩
theorem number_any {w : World} {v : Value} {l : List Int} (h : IntsAt w .i64 v l) (hl : ¬ 65536 < l.length) (hw : wf l) : Calls Try.prog 48 #[v] w fun e w' => e = .returned (.int .i64 (cN l)) ∧ w = w' := by
  obtain ⟨a, cap, rfl, h1, h2, h3⟩ := h
  rcases h3 with rfl | ⟨b, off, rfl, hb, hc⟩
  · go_enter Try.func48, Try.ntmps48
    go_wp2
    refine wp_loop_rounds 1 ?_
    rw [rounds_succ]
    go_wp2
    go_ret
    exact ⟨rfl, rfl⟩
  · exact number_some b off _ cap l rfl (by omega) hw w hc
def cntOf (l : List Int) : Int := if code l = 0 then cN l else 0
theorem ret_two {a b c d : Int} (h : a = b) (h' : c = d) : Ending.returned (.tuple #[.int .i64 a, .int .i64 c]) = .returned (.tuple #[.int .i64 b, .int .i64 d]) := by rw [h, h']

theorem pcount_any {w : World} {v : Value} {l : List Int} (h : IntsAt w .i64 v l) : Calls Try.prog 16 #[v] w fun e w' => e = .returned (.tuple #[.int .i64 (cntOf l), .int .i64 (code l)]) ∧ w = w' := by
  have HA := Lib.hid (check_any h)
  unfold cntOf
  by_cases c : code l = 0
  · rw [if_pos c]
    have HC := Lib.hid (count_any h (code_ok c).1 (code_ok c).2)
    rw [c] at HA ⊢
    clear c h
    go_enter Try.func16, Try.ntmps16
    go_wp2_with (first | (go_at_call 18; ((with_reducible refine (HA.out).mono ?_); rintro e w' ⟨rfl, rfl⟩)) | (go_at_call 47; ((with_reducible refine (HC.out).mono ?_); rintro e w' ⟨rfl, rfl⟩)))
    go_ret2
    exact ⟨rfl, rfl⟩
  · rw [if_neg c]
    have e1 := ne_true c
    generalize code l = k at *
    clear c h
    go_enter Try.func16, Try.ntmps16
    go_wp2_with (go_at_call 18; ((with_reducible refine (HA.out).mono ?_); rintro e w' ⟨rfl, rfl⟩))
    go_ret2
    exact ⟨rfl, rfl⟩

theorem rcount_any {w : World} {v : Value} {l : List Int} (h : IntsAt w .i64 v l) : Calls Try.prog 17 #[v] w fun e w' => e = .returned (.tuple #[.int .i64 (cntOf l), .int .i64 (code l)]) ∧ w = w' := by
  have HA := Lib.hid (rcheck_any h)
  unfold cntOf
  by_cases c : code l = 0
  · rw [if_pos c]
    have HC := Lib.hid (number_any h (code_ok c).1 (code_ok c).2)
    rw [c] at HA ⊢
    clear c h
    go_enter Try.func17, Try.ntmps17
    go_wp2_with (first | (go_at_call 19; ((with_reducible refine (HA.out).mono ?_); rintro e w' ⟨rfl, rfl⟩)) | (go_at_call 48; ((with_reducible refine (HC.out).mono ?_); rintro e w' ⟨rfl, rfl⟩)))
    go_ret2
    exact ⟨rfl, rfl⟩
  · rw [if_neg c]
    have e1 := ne_true c
    generalize code l = k at *
    clear c h
    go_enter Try.func17, Try.ntmps17
    go_wp2_with (go_at_call 19; ((with_reducible refine (HA.out).mono ?_); rintro e w' ⟨rfl, rfl⟩))
    go_ret2
    exact ⟨rfl, rfl⟩
end Go.Proofs.Ytlacohjecehpiaa.Part
