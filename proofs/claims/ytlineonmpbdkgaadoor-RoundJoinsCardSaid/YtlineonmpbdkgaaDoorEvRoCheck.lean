/-
  The check of a graph: the program's and the reference's.
-/
import Derived.WalkKit
import Derived.Below
import Derived.Laws.MakeOwn
import Derived.Laws.OwnMore
import Derived.Deep.Draws
import Derived.Test.YtlineonmpbdkgaaDoorEvRoColWalks
import Derived.Test.YtlineonmpbdkgaaDoorEvGRel
import Derived.Deep.QuietTactic
import Derived.BigQuiet
namespace Go.Law
open Go Go.RowKit

/-- Block B holds just these cells, and may be written. -/
def Own (w : World) (B : Nat) (t : TypeId) (cs : List Value) : Prop := w.heap[B]? = some (.cells ⟨cs⟩ t (0, 0))
theorem Own.cell {w : World} {B : Nat} {t : TypeId} {cs : List Value} (h : Own w B t cs) {j : Nat} {v : Value} (hj : cs[j]? = some v) : w.cell? ⟨B, j, none⟩ = some v := by
  unfold Own at h
  simp [World.cell?, h, hj]
theorem Own.free {w : World} {B : Nat} {t : TypeId} {cs : List Value} (h : Own w B t cs) (j : Nat) : w.frozen? ⟨B, j, none⟩ = false := by
  unfold Own at h
  simp [World.frozen?, h]
theorem Own.lt {w : World} {B : Nat} {t : TypeId} {cs : List Value} (h : Own w B t cs) : B < w.heap.size := by
  by_cases hb : B < w.heap.size
  · exact hb
  · unfold Own at h; rw [Array.getElem?_eq_none (by omega)] at h; cases h
theorem Own.set {w : World} {B : Nat} {t : TypeId} {cs : List Value} (h : Own w B t cs) (j : Nat) (v : Value) : Own (w.setCell ⟨B, j, none⟩ v) B t (cs.set j v) := by
  have hlt := h.lt
  unfold Own at h ⊢
  unfold World.setCell
  simp only [Array.getElem?_modify, if_pos]
  rw [h]
  simp
theorem Own.set_far {w : World} {B : Nat} {t : TypeId} {cs : List Value} (h : Own w B t cs) {p : Addr} (hp : p.block ≠ B) (v : Value) : Own (w.setCell p v) B t cs := by
  unfold Own at h ⊢
  rw [Below.heap_setCell w p v B (Ne.symm hp)]; exact h
theorem Own.drewN {w : World} {B : Nat} {t : TypeId} {cs : List Value} (h : Own w B t cs) (m : Nat) : Own (w.drewN m) B t cs := h
theorem Own.drew {w : World} {B : Nat} {t : TypeId} {cs : List Value} (h : Own w B t cs) : Own w.drew B t cs := h
theorem Own.below {w w' : World} {B : Nat} {t : TypeId} {cs : List Value} (h : Own w B t cs) {B' : Nat} (hb : Below B' w w') (hB : B < B') : Own w' B t cs := by
  unfold Own at h ⊢
  rw [hb.block B hB]; exact h
theorem Own.made (w : World) (t : TypeId) (z : Value) (n : Nat) : Own (w.alloc (.cells (madeCells #[z] n) t)) w.heap.size t (List.replicate n z) := by
  unfold Own
  have : madeCells #[z] n = ⟨List.replicate n z⟩ := by rw [← toList_madeCells_one]
  rw [this]
  unfold World.alloc
  simp
theorem Own.alloc {w : World} {B : Nat} {t : TypeId} {cs : List Value} (h : Own w B t cs) (o : Obj) : Own (w.alloc o) B t cs := by
  have hlt := h.lt
  unfold Own at h ⊢
  rw [Below.heap_alloc w o B hlt]; exact h
theorem below_drewN {B : Nat} {a w : World} (h : Below B a w) (n : Nat) : Below B a (w.drewN n) := ⟨h.os, h.tape, h.output, h.size, h.block⟩

/-- The cells of a list of integers. -/
def At (w : World) (b off : Nat) (zs : List Int) : Prop := ∀ j, j < zs.length → w.cell? ⟨b, off + j, none⟩ = some (.int .i64 (zs.getD j 0))
theorem At.take {w : World} {b off : Nat} {zs : List Int} (h : At w b off zs) (k : Nat) : At w b off (zs.take k) := by
  intro j hj
  rw [List.length_take] at hj
  rw [h j (by omega)]
  simp only [List.getD_eq_getElem?_getD]
  rw [List.getElem?_take, if_pos (by omega)]
theorem At.drewN {w : World} {b off : Nat} {zs : List Int} (h : At w b off zs) (m : Nat) : At (w.drewN m) b off zs := fun j hj => by rw [← h j hj]; simp
theorem At.below {w w' : World} {b off B : Nat} {zs : List Int} (h : At w b off zs) (hb : Below B w w') (hB : b < B) : At w' b off zs := fun j hj => by rw [hb.cell hB]; exact h j hj
theorem At.lt {w : World} {b off : Nat} {zs : List Int} (h : At w b off zs) (hz : 0 < zs.length) : b < w.heap.size := by
  have h := h 0 hz
  by_cases hb : b < w.heap.size
  · exact hb
  · exfalso
    simp only [World.cell?] at h
    rw [Array.getElem?_eq_none (by omega)] at h
    cases h
theorem Own.at {w : World} {B : Nat} {t : TypeId} {zs : List Int} (h : Own w B t (zs.map (Value.int .i64))) : At w B 0 zs := by
  intro j hj
  rw [Nat.zero_add]
  refine h.cell ?_
  rw [List.getElem?_map, List.getElem?_eq_getElem hj]
  simp [List.getD, List.getElem?_eq_getElem hj]
end Go.Law
namespace Go.Proofs.YtlineonmpbdkgaaDoor.Graph
open Go Go.RowKit Go.Graph Go.Law
open Go.Proofs.YtlineonmpbdkgaaDoor.Col

theorem pow_le32 {n : Nat} (h : n ≤ 5) : 2 ^ n ≤ 32 := Nat.pow_le_pow_right (by omega) h
set_option maxHeartbeats 400000 in
theorem pcheck_ok (n : Nat) (h1 : 1 ≤ n) (h5 : n ≤ 5) (x : Nat) (hx : x < 2 ^ n) (w : World) : Calls Tryd.prog 35 #[.int .i64 n, .int .i64 x] w fun e w' => e = .returned (.int .i64 0) ∧ w = w' := by
  have h32 := pow_le32 h5
  have hp1 : (x : Int) < 2 ^ n := by exact_mod_cast hx
  have hp2 : (2 : Int) ^ n ≤ 32 := by exact_mod_cast h32
  have hp0 : 0 ≤ (2 : Int) ^ n := by omega
  clear hx h32
  go_enter Tryd.func35, Tryd.ntmps35
  go_wp2_with (go_at_call 60; refine (checkN_ok _ (by omega) (by omega) _).mono ?_; rintro e w' ⟨rfl, rfl⟩)
  go_ret
  exact ⟨rfl, rfl⟩
set_option maxHeartbeats 400000 in
theorem pcheck_bad (n : Nat) (h1 : 1 ≤ n) (h5 : n ≤ 5) (x : Int) (hx : x < 0 ∨ ((2 ^ n : Nat) : Int) ≤ x) (w : World) : Calls Tryd.prog 35 #[.int .i64 n, .int .i64 x] w fun e w' => e = .returned (.int .i64 2) ∧ w = w' := by
  have h32 := pow_le32 h5
  have hp2 : (2 : Int) ^ n ≤ 32 := by exact_mod_cast h32
  have hp0 : 0 ≤ (2 : Int) ^ n := by have := Nat.zero_le (2 ^ n); exact_mod_cast this
  rcases hx with hx | hx
  · go_enter Tryd.func35, Tryd.ntmps35
    go_wp2_with (go_at_call 60; refine (checkN_ok _ (by omega) (by omega) _).mono ?_; rintro e w' ⟨rfl, rfl⟩)
    go_ret
    exact ⟨rfl, rfl⟩
  · have hx' : (2 : Int) ^ n ≤ x := by push_cast at hx; exact hx
    clear hx
    have h0 : ¬ x < 0 := by omega
    go_enter Tryd.func35, Tryd.ntmps35
    go_wp2_with (go_at_call 60; refine (checkN_ok _ (by omega) (by omega) _).mono ?_; rintro e w' ⟨rfl, rfl⟩)
    go_ret
    exact ⟨rfl, rfl⟩
theorem full_any (n : Nat) (h5 : n ≤ 5) (w : World) : Calls Tryd.prog 61 #[.int .i64 n] w fun e w' => e = .returned (.int .i64 (((2 ^ n : Nat) : Int) - 1)) ∧ w = w' := by
  have h32 := pow_le32 h5
  generalize hq : 2 ^ n = q at *
  have HQ := Lib.hid hq
  clear hq
  go_enter Tryd.func61, Tryd.ntmps61
  go_wp2_with (go_at_call 63; refine (power_any _ h5 _).mono ?_; rintro e w' ⟨rfl, rfl⟩; rw [HQ.out])
  go_ret
  exact ⟨rfl, rfl⟩

/-- The rows of a graph, by their numbers. -/
theorem row_at (r0 r1 r2 r3 r4 : Int) : ∀ k : Nat, k < 5 → ∀ w : World, (Instr.index 22 (.agg #[.int .i64 r0, .int .i64 r1, .int .i64 r2, .int .i64 r3, .int .i64 r4]) (.int .i64 (k : Int))).run Tryd.prog w = .ok (.int .i64 ([r0, r1, r2, r3, r4].getD k 0)) w
  | 0, _ => fun _ => by kernel_rfl
  | 1, _ => fun _ => by kernel_rfl
  | 2, _ => fun _ => by kernel_rfl
  | 3, _ => fun _ => by kernel_rfl
  | 4, _ => fun _ => by kernel_rfl
theorem cell_at (w : World) (n r0 r1 r2 r3 r4 : Int) (t : TypeId) : ∀ k : Nat, k < 5 → (w.alloc (.cells #[.int .i64 n, .int .i64 r0, .int .i64 r1, .int .i64 r2, .int .i64 r3, .int .i64 r4] t)).cell? ⟨w.heap.size, 1 + k, none⟩ = some (.int .i64 ([r0, r1, r2, r3, r4].getD k 0)) := by
  intro k hk
  rw [World.cell?_alloc_at _ _ _ _ rfl]
  match k, hk with
  | 0, _ => rfl
  | 1, _ => rfl
  | 2, _ => rfl
  | 3, _ => rfl
  | 4, _ => rfl
theorem below_alloc (w : World) (o : Obj) : Below w.heap.size w (w.alloc o) := (Below.refl _ _).alloc (Nat.le_refl _) o
theorem bit_is (s p : Nat) (hs : s < 32) (hp : p < 5) {b : Bool} (h : (bits BinOp.and IntKind.i64 (s : Int) (wrap64 (2 ^ p)) == 0) = b) : s / 2 ^ p % 2 = if b then 0 else 1 := by
  rw [bit_and s p hs hp] at h
  have := Go.Col.bits_and p hp s hs
  cases b
  · have h' := beq_eq_false_iff_ne.1 h
    have h2 : ¬ s / 2 ^ p % 2 = 0 := fun h0 => h' (by rw [this.2 h0]; rfl)
    simp; omega
  · have h' := eq_of_beq h
    simp only [Int.natCast_eq_zero] at h'
    simpa using this.1 h'
set_option maxHeartbeats 1000000 in
set_option maxRecDepth 100000 in
theorem check_any (n : Nat) (h1 : 1 ≤ n) (h5 : n ≤ 5) (r0 r1 r2 r3 r4 : Int) (w : World) :
    Calls Tryd.prog 34 #[.agg #[.int .i64 n, .int .i64 r0, .int .i64 r1, .int .i64 r2, .int .i64 r3, .int .i64 r4]] w fun e w' => e = .returned (.int .i64 (rows n 0 [r0, r1, r2, r3, r4])) ∧ Below w.heap.size w w' := by
  have HR := Lib.hid (row_at r0 r1 r2 r3 r4)
  have HB := Lib.hid (below_alloc w (.cells #[.int .i64 n, .int .i64 r0, .int .i64 r1, .int .i64 r2, .int .i64 r3, .int .i64 r4] 24))
  have h32 := Lib.hid (pow_le32 h5)
  go_enter Tryd.func34, Tryd.ntmps34
  go_wp2
  go_loop [15] (fun i => ∃ k : Nat, k ≤ 5 ∧ i = .int .i64 k ∧ rows n 0 [r0, r1, r2, r3, r4] = rows n k ([r0, r1, r2, r3, r4].drop k)) (fun i => 5 - (intOf i).toNat)
  case atStart => exact ⟨0, by omega, rfl, rfl⟩
  case round =>
    obtain ⟨k, hk, rfl, hsc⟩ := hrel
    have HS := Lib.hid hsc
    clear hsc
    by_cases hlt : k < 5
    · have hix := HR.out k hlt
      have HD := Lib.hid (drop_cons (l := [r0, r1, r2, r3, r4]) (k := k) hlt)
      generalize [r0, r1, r2, r3, r4].getD k 0 = x at *
      by_cases hkn : n ≤ k
      · by_cases hx : x = 0
        · have hb : (x != 0) = false := by simpa using hx
          have HX := Lib.hid hx
          clear hx
          go_wp2
          go_round
          case rel => exact ⟨k + 1, by omega, by go_num, by rw [HS.out, HD.out, rows_zero hkn HX.out]⟩
          case measure => simp [intOf]; omega
        · have hb : (x != 0) = true := by simpa using hx
          have HX := Lib.hid hx
          clear hx
          go_wp2
          go_ret
          exact ⟨ret_int (by rw [HS.out, HD.out, rows_far hkn HX.out]), HB.out⟩
      · have hkn' : k < n := by omega
        by_cases hx : x < 0 ∨ ((2 ^ n : Nat) : Int) ≤ x
        · have HX := Lib.hid hx
          clear hx
          go_wp2_with (go_at_call 35; refine (pcheck_bad n h1 h5 x HX.out _).mono ?_; rintro e w' ⟨rfl, rfl⟩)
          go_ret
          exact ⟨ret_int (by rw [HS.out, HD.out, rows_range hkn' HX.out]), HB.out⟩
        · obtain ⟨q, rfl⟩ := Int.eq_ofNat_of_zero_le (show 0 ≤ x by omega)
          have hq : q < 2 ^ n := by omega
          have hq32 : q < 32 := Nat.lt_of_lt_of_le hq h32.out
          have HX := Lib.hid hq
          clear hx hq
          go_wp2_with (go_at_call 35; refine (pcheck_ok n h1 h5 q HX.out _).mono ?_; rintro e w' ⟨rfl, rfl⟩)
          · have hb : (bits BinOp.and IntKind.i64 (↑q) (wrap64 (2 ^ k)) == 0) = true := by assumption
            have hbit := bit_is q k hq32 (by omega) hb
            go_ret
            exact ⟨ret_int (by rw [HS.out, HD.out, rows_self hkn' HX.out (by simpa using hbit)]), HB.out⟩
          · have hb : (bits BinOp.and IntKind.i64 (↑q) (wrap64 (2 ^ k)) == 0) = false := by assumption
            have hbit := bit_is q k hq32 (by omega) hb
            go_round
            case rel => exact ⟨k + 1, by omega, by go_num, by rw [HS.out, HD.out, rows_more hkn' HX.out (by simpa using hbit)]⟩
            case measure => simp [intOf]; omega
    · have hk' : k = 5 := by omega
      subst hk'
      go_wp2
      go_ret
      exact ⟨ret_int (by rw [HS.out]; rfl), HB.out⟩
set_option maxHeartbeats 1000000 in
set_option maxRecDepth 100000 in
theorem rcheck_any (n : Nat) (h1 : 1 ≤ n) (h5 : n ≤ 5) (r0 r1 r2 r3 r4 : Int) (w : World) :
    Calls Tryd.prog 36 #[.agg #[.int .i64 n, .int .i64 r0, .int .i64 r1, .int .i64 r2, .int .i64 r3, .int .i64 r4]] w fun e w' => e = .returned (.int .i64 (rows n 0 [r0, r1, r2, r3, r4])) ∧ Below w.heap.size w w' := by
  have HR := Lib.hid (cell_at w n r0 r1 r2 r3 r4 24)
  have HB := Lib.hid (below_alloc w (.cells #[.int .i64 n, .int .i64 r0, .int .i64 r1, .int .i64 r2, .int .i64 r3, .int .i64 r4] 24))
  have h32 := Lib.hid (pow_le32 h5)
  go_enter Tryd.func36, Tryd.ntmps36
  go_wp2
  go_loop [3] (fun i => ∃ k : Nat, k ≤ 5 ∧ i = .int .i64 k ∧ rows n 0 [r0, r1, r2, r3, r4] = rows n k ([r0, r1, r2, r3, r4].drop k)) (fun i => 5 - (intOf i).toNat)
  case atStart => exact ⟨0, by omega, rfl, rfl⟩
  case round =>
    obtain ⟨k, hk, rfl, hsc⟩ := hrel
    have HS := Lib.hid hsc
    clear hsc
    by_cases hlt : k < 5
    · have hcell := HR.out k hlt
      have HD := Lib.hid (drop_cons (l := [r0, r1, r2, r3, r4]) (k := k) hlt)
      generalize [r0, r1, r2, r3, r4].getD k 0 = x at *
      by_cases hkn : n ≤ k
      · by_cases hx : x = 0
        · have hb : (x != 0) = false := by simpa using hx
          have HX := Lib.hid hx
          clear hx
          go_wp2
          go_round
          case rel => exact ⟨k + 1, by omega, by go_num, by rw [HS.out, HD.out, rows_zero hkn HX.out]⟩
          case measure => simp [intOf]; omega
        · have hb : (x != 0) = true := by simpa using hx
          have HX := Lib.hid hx
          clear hx
          go_wp2
          go_ret
          exact ⟨ret_int (by rw [HS.out, HD.out, rows_far hkn HX.out]), HB.out⟩
      · have hkn' : k < n := by omega
        by_cases hx0 : x < 0
        · go_wp2
          go_ret
          exact ⟨ret_int (by rw [HS.out, HD.out, rows_range hkn' (.inl hx0)]), HB.out⟩
        · obtain ⟨q, rfl⟩ := Int.eq_ofNat_of_zero_le (show 0 ≤ x by omega)
          by_cases hq : q < 2 ^ n
          · have hq32 : q < 32 := Nat.lt_of_lt_of_le hq h32.out
            have HQ := Lib.hid hq
            have hle : ¬ ((2 ^ n : Nat) : Int) - 1 < (q : Int) := by omega
            generalize hP : ((2 ^ n : Nat) : Int) = P at *
            have HP := Lib.hid hP
            clear hq hP
            rcases Nat.mod_two_eq_zero_or_one (q / 2 ^ k) with hno | hyes
            · have HN := Lib.hid hno
              have HX := Lib.hid (show (q / 2 ^ k % 2 == 1) = false by simp [hno])
              clear hno
              go_wp2_with (first | (go_at_call 61; refine (full_any n h5 _).mono ?_; rintro e w' ⟨rfl, rfl⟩; rw [HP.out]) | (go_at_call 62; refine (has_any q k hq32 (by omega) _).mono ?_; rintro e w' ⟨rfl, rfl⟩; rw [HX.out]))
              go_ret
              exact ⟨ret_int (by rw [HS.out, HD.out, rows_self hkn' HQ.out HN.out]), HB.out⟩
            · have HN := Lib.hid hyes
              have HX := Lib.hid (show (q / 2 ^ k % 2 == 1) = true by simp [hyes])
              clear hyes
              go_wp2_with (first | (go_at_call 61; refine (full_any n h5 _).mono ?_; rintro e w' ⟨rfl, rfl⟩; rw [HP.out]) | (go_at_call 62; refine (has_any q k hq32 (by omega) _).mono ?_; rintro e w' ⟨rfl, rfl⟩; rw [HX.out]))
              go_round
              case rel => exact ⟨k + 1, by omega, by go_num, by rw [HS.out, HD.out, rows_more hkn' HQ.out HN.out]⟩
              case measure => simp [intOf]; omega
          · have hgt : ((2 ^ n : Nat) : Int) - 1 < (q : Int) := by omega
            have HQ := Lib.hid (show ((2 ^ n : Nat) : Int) ≤ (q : Int) by omega)
            generalize hP : ((2 ^ n : Nat) : Int) = P at *
            have HP := Lib.hid hP
            clear hP hq
            go_wp2_with (go_at_call 61; refine (full_any n h5 _).mono ?_; rintro e w' ⟨rfl, rfl⟩; rw [HP.out])
            go_ret
            exact ⟨ret_int (by rw [HS.out, HD.out, rows_range hkn' (.inr (by rw [HP.out]; exact HQ.out))]), HB.out⟩
    · have hk' : k = 5 := by omega
      subst hk'
      go_wp2
      go_ret
      exact ⟨ret_int (by rw [HS.out]; rfl), HB.out⟩
theorem check_bad (n : Int) (h : n < 1 ∨ 5 < n) (r0 r1 r2 r3 r4 : Int) (w : World) :
    Calls Tryd.prog 34 #[.agg #[.int .i64 n, .int .i64 r0, .int .i64 r1, .int .i64 r2, .int .i64 r3, .int .i64 r4]] w fun e w' => e = .returned (.int .i64 2) ∧ Below w.heap.size w w' := by
  have HB := Lib.hid (below_alloc w (.cells #[.int .i64 n, .int .i64 r0, .int .i64 r1, .int .i64 r2, .int .i64 r3, .int .i64 r4] 24))
  rcases h with h | h
  · go_enter Tryd.func34, Tryd.ntmps34
    go_wp2
    go_ret
    exact ⟨rfl, HB.out⟩
  · have h1 : ¬ n < 1 := by omega
    go_enter Tryd.func34, Tryd.ntmps34
    go_wp2
    go_ret
    exact ⟨rfl, HB.out⟩
theorem rcheck_bad (n : Int) (h : n < 1 ∨ 5 < n) (r0 r1 r2 r3 r4 : Int) (w : World) :
    Calls Tryd.prog 36 #[.agg #[.int .i64 n, .int .i64 r0, .int .i64 r1, .int .i64 r2, .int .i64 r3, .int .i64 r4]] w fun e w' => e = .returned (.int .i64 2) ∧ Below w.heap.size w w' := by
  have HB := Lib.hid (below_alloc w (.cells #[.int .i64 n, .int .i64 r0, .int .i64 r1, .int .i64 r2, .int .i64 r3, .int .i64 r4] 24))
  rcases h with h | h
  · go_enter Tryd.func36, Tryd.ntmps36
    go_wp2
    go_ret
    exact ⟨rfl, HB.out⟩
  · have h1 : ¬ n < 1 := by omega
    go_enter Tryd.func36, Tryd.ntmps36
    go_wp2
    go_ret
    exact ⟨rfl, HB.out⟩
theorem gcheck (n r0 r1 r2 r3 r4 : Int) (w : World) :
    Calls Tryd.prog 34 #[.agg #[.int .i64 n, .int .i64 r0, .int .i64 r1, .int .i64 r2, .int .i64 r3, .int .i64 r4]] w fun e w' => e = .returned (.int .i64 (check n [r0, r1, r2, r3, r4])) ∧ Below w.heap.size w w' := by
  unfold check
  by_cases h : n < 1 ∨ 5 < n
  · rw [if_pos h]; exact check_bad n h _ _ _ _ _ w
  · rw [if_neg h]
    obtain ⟨k, rfl⟩ := Int.eq_ofNat_of_zero_le (show 0 ≤ n by omega)
    exact check_any k (by omega) (by omega) _ _ _ _ _ w
theorem grcheck (n r0 r1 r2 r3 r4 : Int) (w : World) :
    Calls Tryd.prog 36 #[.agg #[.int .i64 n, .int .i64 r0, .int .i64 r1, .int .i64 r2, .int .i64 r3, .int .i64 r4]] w fun e w' => e = .returned (.int .i64 (check n [r0, r1, r2, r3, r4])) ∧ Below w.heap.size w w' := by
  unfold check
  by_cases h : n < 1 ∨ 5 < n
  · rw [if_pos h]; exact rcheck_bad n h _ _ _ _ _ w
  · rw [if_neg h]
    obtain ⟨k, rfl⟩ := Int.eq_ofNat_of_zero_le (show 0 ≤ n by omega)
    exact rcheck_any k (by omega) (by omega) _ _ _ _ _ w
end Go.Proofs.YtlineonmpbdkgaaDoor.Graph
