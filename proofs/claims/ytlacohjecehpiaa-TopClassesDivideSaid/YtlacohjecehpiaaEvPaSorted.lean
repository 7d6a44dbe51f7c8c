/-
  Sorted lists, and lists of truths: what the library says of them.
-/
import Derived.Test.YtlacohjecehpiaaEvPaRClasses
namespace Go.Proofs.Ytlacohjecehpiaa.Part
open Go Go.RowKit Go.Part Go.Law Go.Maps

theorem nan_any (x : Int) (w : World) : Calls Try.prog 75 #[.int .i64 x] w fun e w' => e = .returned (.bool false) ∧ w = w' := by
  have hd : ((x : Int) != x) = false := by simp
  go_enter Try.func75, Try.ntmps75
  go_wp2
  go_ret
  exact ⟨rfl, rfl⟩
theorem less_any (x y : Int) (w : World) : Calls Try.prog 61 #[.int .i64 x, .int .i64 y] w fun e w' => e = .returned (.bool (decide (x < y))) ∧ w = w' := by
  go_enter Try.func61, Try.ntmps61
  go_wp2_with (go_at_call 75; ((with_reducible refine (nan_any _ _).mono ?_); rintro e w' ⟨rfl, rfl⟩))
  go_ret
  exact ⟨ret_bool (by simp), rfl⟩
theorem quiet_pure {P : Program} {f : FuncId} {args : Array Value} {w : World} {a n : Nat} {v : Value}
    (h : ∀ w : World, Calls P f args w fun e w' => e = .returned v ∧ w = w') :
    Calls P f args (w.drewN (a + n)) fun e w'' => e = .returned v ∧ ∃ m, w'' = w.drewN (a + m) :=
  (h _).mono fun _ _ ⟨he, hw⟩ => ⟨he, n, hw.symm⟩
theorem less_false {x y : Int} (h : y ≤ x) (w : World) : Calls Try.prog 61 #[.int .i64 x, .int .i64 y] w fun e w' => e = .returned (.bool false) ∧ w = w' := by
  have := less_any x y w
  rwa [show decide (x < y) = false by simp; omega] at this
set_option maxHeartbeats 2000000 in
theorem sorted_some (b off m cap : Nat) (zs : List Int) (hz : zs.length = m + 1) (hl : m < 65538) (w : World) (hc : At w b off zs) (ha : ∀ j, j < m → zs.getD j 0 ≤ zs.getD (j + 1) 0) :
    Calls Try.prog 37 #[.slice (some ⟨b, off, none⟩) (m + 1) cap] w (Quiet (.bool true) w) := by
  have HC := Lib.hid hc
  have HA := Lib.hid ha
  have HZ := Lib.hid hz
  clear hc ha hz
  go_enter Try.func37, Try.ntmps37
  go_wp2
  go_loopw [3] (fun i wr => ∃ k q : Nat, k ≤ m ∧ i = .int .i64 k ∧ wr = w.drewN q) (fun i _ => (intOf i).toNat)
  case atStart => exact ⟨m, 0, Nat.le_refl _, by first | rfl | go_num | (congr 1; omega), rfl⟩
  case round =>
    obtain ⟨k, q, hk, rfl, rfl⟩ := hrel
    by_cases h0 : 0 < k
    · obtain ⟨j, rfl⟩ : ∃ j, k = j + 1 := ⟨k - 1, by omega⟩
      have hcell := HC.out (j + 1) (by have := HZ.out; omega)
      have hcell1 := HC.out j (by have := HZ.out; omega)
      have hle := HA.out j (by omega)
      generalize zs.getD (j + 1) 0 = x at *
      generalize zs.getD j 0 = y at *
      have hw1 : IntKind.i64.wrap (((j + 1 : Nat) : Int) - 1) = (j : Int) := by rw [show (((j + 1 : Nat) : Int) - 1) = (j : Int) by omega, IntKind.wrap_i64]; omega
      have hw2 : wrap64 (((j + 1 : Nat) : Int) - 1) = (j : Int) := by unfold wrap64; omega
      have hj0 : (0 : Int) ≤ (j : Int) := by omega
      have hj1 : (j : Int) < ((m + 1 : Nat) : Int) := by omega
      go_wp2
      go_quiet ((go_at_call 61; exact quiet_pure (less_false hle)))
      go_wp2
      exact ⟨⟨j, q + nq, by omega, by first | rfl | go_num | (congr 1; omega), rfl⟩, by simp [intOf]; try omega⟩
    · go_wp2
      go_ret
      exact ⟨q, rfl, rfl⟩
theorem sorted_any {w : World} {v : Value} {zs : List Int} (h : IntsAt w .i64 v zs) (h0 : 0 < zs.length) (hl : zs.length < 65538) (ha : ∀ j, j + 1 < zs.length → zs.getD j 0 ≤ zs.getD (j + 1) 0) : Calls Try.prog 37 #[v] w (Quiet (.bool true) w) := by
  obtain ⟨a, cap, rfl, h1, h2, h3⟩ := h
  rcases h3 with rfl | ⟨b, off, rfl, hb, hc⟩
  · simp at h0
  · obtain ⟨m, hm⟩ : ∃ m, zs.length = m + 1 := ⟨zs.length - 1, by omega⟩
    rw [hm]
    exact sorted_some b off m cap zs hm (by omega) w hc fun j hj => ha j (by omega)

/-! Truths. -/
theorem elem57 : Try.prog.elem 57 = 4 := by kernel_rfl
theorem size4 (W : World) : (sizeOf 4).run Try.prog W = .ok 1 W := by kernel_rfl
theorem info4 : (Try.prog.info? 4).map (fun i => (i.zero, i.size, i.bytes)) = some (some (.bool false), 1, 1) := by kernel_rfl
theorem make_bools (n : Nat) (hn : n ≤ 65538) (W : World) : (Instr.makeSlice 57 (.int .i64 (n : Int)) (.int .i64 (n : Int))).run Try.prog W = .ok (.slice (some ⟨W.heap.size, 0, none⟩) n n) (W.alloc (.cells (madeCells #[.bool false] n) 4)) := by
  obtain ⟨i0, hi, hz0, hz1, hz2⟩ := info_parts info4
  have := run_make (P := Try.prog) W 57 4 i0 (.bool false) Try.underlying57 hi hz0 .i64 .i64 (n : Int) (n : Int) (by omega) (by omega) (by rw [hz2]; omega) (by omega)
  rw [this, hz1]
  simp [Value.cells]
/-- n truths. -/
noncomputable def truths (n : Nat) (P : Nat → Prop) : List Value := open Classical in (List.range n).map fun i => .bool (decide (P i))
theorem truths_len (n : Nat) (P : Nat → Prop) : (truths n P).length = n := by simp [truths]
theorem truths_get {n i : Nat} (P : Nat → Prop) (h : i < n) : (truths n P)[i]? = some (.bool (open Classical in decide (P i))) := by simp [truths, h]
theorem truths_yes {n i : Nat} {P : Nat → Prop} (h : i < n) (hp : P i) : (truths n P)[i]? = some (.bool true) := by rw [truths_get P h]; simp [hp]
theorem truths_no {n i : Nat} {P : Nat → Prop} (h : i < n) (hp : ¬ P i) : (truths n P)[i]? = some (.bool false) := by rw [truths_get P h]; simp [hp]
theorem truths_same {n : Nat} {P Q : Nat → Prop} (h : ∀ i, i < n → (P i ↔ Q i)) : truths n P = truths n Q := by
  apply List.ext_getElem?; intro i
  by_cases hi : i < n
  · rw [truths_get P hi, truths_get Q hi]; simp [h i hi]
  · rw [List.getElem?_eq_none (by rw [truths_len]; omega), List.getElem?_eq_none (by rw [truths_len]; omega)]
theorem truths_set {n x : Nat} {P : Nat → Prop} : (truths n P).set x (.bool true) = truths n (fun i => P i ∨ i = x) := by
  apply List.ext_getElem?; intro i
  by_cases hi : i < n
  · rw [truths_get _ hi]
    by_cases e : i = x
    · subst e
      rw [List.getElem?_set_self (by rw [truths_len]; exact hi)]; simp
    · rw [List.getElem?_set_ne (Ne.symm e), truths_get _ hi]; simp [e]
  · rw [List.getElem?_eq_none (by rw [List.length_set, truths_len]; omega), List.getElem?_eq_none (by rw [truths_len]; omega)]
theorem truths_none (n : Nat) : List.replicate n (Value.bool false) = truths n fun _ => False := by
  apply List.ext_getElem?; intro i
  by_cases hi : i < n
  · rw [truths_no hi (by simp)]; simp [hi]
  · rw [List.getElem?_eq_none (by simp; omega), List.getElem?_eq_none (by rw [truths_len]; omega)]
set_option maxHeartbeats 1000000 in
theorem index62 (B n : Nat) (hn : n ≤ 65538) (w : World) (hc : ∀ j, j < n → w.cell? ⟨B, j, none⟩ = some (.bool true)) :
    Calls Try.prog 62 #[.slice (some ⟨B, 0, none⟩) n n, .bool false] w fun e w' => e = .returned (.int .i64 (-1)) ∧ w = w' := by
  have HC := Lib.hid hc
  clear hc
  go_enter Try.func62, Try.ntmps62
  go_wp2
  go_loop [8] (fun i => ∃ k : Nat, k ≤ n ∧ i = .int .i64 k) (fun i => n - (intOf i).toNat)
  case atStart => exact ⟨0, Nat.zero_le _, rfl⟩
  case round =>
    obtain ⟨k, hk, rfl⟩ := hrel
    by_cases hlt : k < n
    · have hcell := HC.out k hlt
      go_wp2
      go_round
      case rel => exact ⟨k + 1, by omega, by go_num⟩
      case measure => simp [intOf]; omega
    · go_wp2
      go_ret
      exact ⟨rfl, rfl⟩
theorem contains_no (B n : Nat) (hn : n ≤ 65538) (w : World) (hc : ∀ j, j < n → w.cell? ⟨B, j, none⟩ = some (.bool true)) :
    Calls Try.prog 38 #[.slice (some ⟨B, 0, none⟩) n n, .bool false] w fun e w' => e = .returned (.bool false) ∧ w = w' := by
  have HI := Lib.hid (index62 B n hn w hc)
  clear hc
  go_enter Try.func38, Try.ntmps38
  go_wp2_with (go_at_call 62; ((with_reducible refine (HI.out).mono ?_); rintro e w' ⟨rfl, rfl⟩))
  go_ret
  exact ⟨rfl, rfl⟩
end Go.Proofs.Ytlacohjecehpiaa.Part
