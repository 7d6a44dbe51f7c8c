/-
  The check of a graph: the program's and the reference's.
-/
import GoSem.Step
import Derived.Test.YtlineonmpbdkgaaDoorProg
import Derived.WalkKit
import Derived.IntWalk
import Derived.Lib.Hide
import Derived.Laws.BitsAllLaws
import Derived.Laws.BitsLemmas
import Derived.Below
import Derived.Laws.MakeOwn
import Derived.Laws.OwnMore
import Derived.Deep.Draws
import Derived.Test.YtlineonmpbdkgaaDoorEvGRel
import Derived.Deep.QuietTactic
import Derived.BigQuiet
namespace Go.Col

/-- The set of a list, and the number of the error, from a set on. -/
def scan (n : Nat) : List Int → Nat → Int × Int
  | [], s => (s, 0)
  | x :: xs, s => if x < 0 ∨ (n : Int) ≤ x then (0, 2) else if s / 2 ^ x.toNat % 2 = 1 then (0, 7) else scan n xs (s + 2 ^ x.toNat)

theorem scan_range {n : Nat} {x : Int} {xs : List Int} {s : Nat} (h : x < 0 ∨ (n : Int) ≤ x) : scan n (x :: xs) s = (0, 2) := by rw [scan, if_pos h]
theorem scan_twice {n : Nat} {x : Int} {xs : List Int} {s : Nat} (h0 : 0 ≤ x) (h1 : x < n) (h : s / 2 ^ x.toNat % 2 = 1) : scan n (x :: xs) s = (0, 7) := by
  rw [scan, if_neg (by omega), if_pos h]
theorem scan_more {n : Nat} {x : Int} {xs : List Int} {s : Nat} (h0 : 0 ≤ x) (h1 : x < n) (h : s / 2 ^ x.toNat % 2 = 0) : scan n (x :: xs) s = scan n xs (s + 2 ^ x.toNat) := by
  rw [scan, if_neg (by omega), if_neg (by omega)]

theorem room : ∀ n, n < 6 → ∀ x, x < n → ∀ s, s < 2 ^ n → s / 2 ^ x % 2 = 0 → s + 2 ^ x < 2 ^ n := by
  intro n hn x hx s hs h
  have e : ∀ n < 6, ∀ x < n, ∀ s < 32, s < 2 ^ n → s / 2 ^ x % 2 = 0 → s + 2 ^ x < 2 ^ n := by decide +kernel
  refine e n hn x hx s (Nat.lt_of_lt_of_le hs ?_) hs h
  exact Nat.pow_le_pow_right (by omega) (show n ≤ 5 by omega)
theorem bits_or : ∀ x, x < 5 → ∀ s, s < 32 → s / 2 ^ x % 2 = 0 → s ||| 2 ^ x = s + 2 ^ x := by decide +kernel
theorem bits_and : ∀ x, x < 5 → ∀ s, s < 32 → (s &&& 2 ^ x = 0 ↔ s / 2 ^ x % 2 = 0) := by decide +kernel
end Go.Col
namespace Go.Proofs.YtlineonmpbdkgaaDoor.Col
open Go Go.RowKit Go.Col

theorem ret_int {k : IntKind} {a b : Int} (h : a = b) : Ending.returned (.int k a) = .returned (.int k b) := by rw [h]
theorem ret_bool {a b : Bool} (h : a = b) : Ending.returned (.bool a) = .returned (.bool b) := by rw [h]
set_option maxHeartbeats 400000 in
theorem power_any (n : Nat) (hn : n ≤ 5) (w : World) :
    Calls Tryd.prog 63 #[.int .i64 n] w fun e w' => e = .returned (.int .i64 ((2 ^ n : Nat) : Int)) ∧ w = w' := by
  go_enter Tryd.func63, Tryd.ntmps63
  go_wp2
  go_loop [3, 4] (fun o i => ∃ k : Nat, k ≤ n ∧ i = .int .i64 k ∧ o = .int .i64 ((2 ^ k : Nat) : Int)) (fun _ i => n - (intOf i).toNat)
  case atStart => exact ⟨0, Nat.zero_le _, rfl, rfl⟩
  case round =>
    obtain ⟨k, hk, rfl, rfl⟩ := hrel
    have hp : 2 ^ k ≤ 32 := Nat.le_trans (Nat.pow_le_pow_right (by omega) (show k ≤ 5 by omega)) (by decide)
    have hp1 : (2 : Int) ^ k ≤ 32 := by exact_mod_cast hp
    have hp0 : 0 ≤ (2 : Int) ^ k := by have := Nat.zero_le (2 ^ k); exact_mod_cast this
    clear hp
    by_cases hlt : k < n
    · go_wp2
      go_round
      case rel => exact ⟨k + 1, by omega, by go_num, by rw [Nat.pow_succ]; push_cast; rfl⟩
      case measure => simp [intOf]; omega
    · go_wp2
      go_ret
      have : k = n := by omega
      subst this
      exact ⟨rfl, rfl⟩
set_option maxHeartbeats 400000 in
theorem has_any (s p : Nat) (hs : s < 32) (hp : p < 5) (w : World) :
    Calls Tryd.prog 62 #[.int .i64 s, .int .i64 p] w fun e w' => e = .returned (.bool (s / 2 ^ p % 2 == 1)) ∧ w = w' := by
  have hq : 2 ^ p ≤ 16 := Nat.le_trans (Nat.pow_le_pow_right (by omega) (show p ≤ 4 by omega)) (by decide)
  have hq0 : 0 < 2 ^ p := Nat.pow_pos (by omega)
  generalize hg : 2 ^ p = q at *
  have HG := Lib.hid hg
  clear hg
  have hd : s / q < 32 := Nat.lt_of_le_of_lt (Nat.div_le_self _ _) hs
  have hd1 : (s : Int) / (q : Int) < 32 := by exact_mod_cast hd
  have hd0 : 0 ≤ (s : Int) / (q : Int) := by have := Nat.zero_le (s / q); exact_mod_cast this
  clear hd
  go_enter Tryd.func62, Tryd.ntmps62
  go_wp2_with (go_at_call 63; refine (power_any _ (by omega) _).mono ?_; rintro e w' ⟨rfl, rfl⟩; rw [HG.out])
  go_ret
  refine ⟨ret_bool ?_, rfl⟩
  show ((((s / q : Nat) : Int)) % 2 == 1) = _
  rw [Bool.eq_iff_iff]; simp only [beq_iff_eq]; omega

theorem checkN_ok (n : Int) (h1 : 1 ≤ n) (h2 : n ≤ 5) (w : World) : Calls Tryd.prog 60 #[.int .i64 n] w fun e w' => e = .returned (.int .i64 0) ∧ w = w' := by
  go_enter Tryd.func60, Tryd.ntmps60
  go_wp2
  go_ret
  exact ⟨rfl, rfl⟩
theorem checkN_bad (n : Int) (h : n < 1 ∨ 5 < n) (w : World) : Calls Tryd.prog 60 #[.int .i64 n] w fun e w' => e = .returned (.int .i64 1) ∧ w = w' := by
  rcases h with h | h
  · go_enter Tryd.func60, Tryd.ntmps60
    go_wp2
    go_ret
    exact ⟨rfl, rfl⟩
  · have h1 : ¬ n < 1 := by omega
    go_enter Tryd.func60, Tryd.ntmps60
    go_wp2
    go_ret
    exact ⟨rfl, rfl⟩
theorem ret_two {k l : IntKind} {a b c d : Int} (h : a = b) (h' : c = d) : Ending.returned (.tuple #[.int k a, .int l c]) = .returned (.tuple #[.int k b, .int l d]) := by rw [h, h']
theorem ofInt_i64 (a : Nat) (ha : a < 9223372036854775808) : (BitVec.ofInt 64 (a : Int)).toNat = a := by
  rw [BitVec.ofInt_natCast, BitVec.toNat_ofNat]; exact Nat.mod_eq_of_lt (by omega)
theorem i64_and_nat (a b : Nat) (ha : a < 9223372036854775808) (hb : b < 9223372036854775808) : bits .and .i64 (a : Int) (b : Int) = ((a &&& b : Nat) : Int) := by
  have hx : a &&& b < 2 ^ 63 := Nat.and_lt_two_pow _ (by omega)
  show IntKind.i64.wrap ((BitVec.ofInt 64 (a : Int) &&& BitVec.ofInt 64 (b : Int)).toNat : Int) = _
  rw [BitVec.toNat_and, ofInt_i64 a ha, ofInt_i64 b hb, IntKind.wrap_i64]
  omega
theorem i64_or_nat (a b : Nat) (ha : a < 9223372036854775808) (hb : b < 9223372036854775808) : bits .or .i64 (a : Int) (b : Int) = ((a ||| b : Nat) : Int) := by
  have hx : a ||| b < 2 ^ 63 := Nat.or_lt_two_pow (by omega) (by omega)
  show IntKind.i64.wrap ((BitVec.ofInt 64 (a : Int) ||| BitVec.ofInt 64 (b : Int)).toNat : Int) = _
  rw [BitVec.toNat_or, ofInt_i64 a ha, ofInt_i64 b hb, IntKind.wrap_i64]
  omega
theorem wrap_pow : ∀ p, p < 5 → wrap64 ((2 : Int) ^ p) = ((2 ^ p : Nat) : Int) := by decide +kernel
theorem pow_small (p : Nat) (hp : p < 5) : 2 ^ p < 9223372036854775808 := Nat.lt_of_lt_of_le (Nat.pow_lt_pow_right (by omega) hp) (by decide)
theorem bit_and (s p : Nat) (hs : s < 32) (hp : p < 5) : bits BinOp.and IntKind.i64 (s : Int) (wrap64 (2 ^ p)) = ((s &&& 2 ^ p : Nat) : Int) := by
  rw [wrap_pow p hp, i64_and_nat _ _ (by omega) (pow_small p hp)]
theorem bit_yes (s p : Nat) (hs : s < 32) (hp : p < 5) (h : (bits BinOp.and IntKind.i64 (s : Int) (wrap64 (2 ^ p)) != 0) = true) : s / 2 ^ p % 2 = 1 := by
  rw [bit_and s p hs hp] at h
  have := bits_and p hp s hs
  simp only [bne_iff_ne, ne_eq, Int.natCast_eq_zero] at h
  have h2 : ¬ s / 2 ^ p % 2 = 0 := fun h0 => h (this.2 h0)
  omega
theorem bit_no (s p : Nat) (hs : s < 32) (hp : p < 5) (h : (bits BinOp.and IntKind.i64 (s : Int) (wrap64 (2 ^ p)) != 0) = false) : s / 2 ^ p % 2 = 0 := by
  rw [bit_and s p hs hp] at h
  simp only [bne_eq_false_iff_eq, Int.natCast_eq_zero] at h
  exact (bits_and p hp s hs).1 h
theorem bit_or (s p : Nat) (hs : s < 32) (hp : p < 5) (h : s / 2 ^ p % 2 = 0) : bits BinOp.or IntKind.i64 (s : Int) (wrap64 (2 ^ p)) = ((s + 2 ^ p : Nat) : Int) := by
  rw [wrap_pow p hp, i64_or_nat _ _ (by omega) (pow_small p hp), bits_or p hp s hs h]
/-! The empty list. -/
/-! A wrong number of processes. -/
end Go.Proofs.YtlineonmpbdkgaaDoor.Col
namespace Go.Law
open Go Go.RowKit

/-- Block B holds just these cells, and may be written. -/
def Own (w : World) (B : Nat) (t : TypeId) (cs : List Value) : Prop := w.heap[B]? = some (.cells ⟨cs⟩ t (0, 0))
theorem Own.cell {w : World} {B : Nat} {t : TypeId} {cs : List Value} (h : Own w B t cs) {j : Nat} {v : Value} (hj : cs[j]? = some v) : w.cell? ⟨B, j, none⟩ = some v := by
  unfold Own at h
  simp [World.cell?, h, hj]
theorem Own.free {w : World} {B : Nat} {t : TypeId} {cs : List Value} (h : Own w B t cs) (j : Nat) : w.frozen? ⟨B, j, none⟩ = false := by
  unfold Own at h
  simp [World.frozen?, h]
theorem Own.lt {w : World} {B : Nat} {t : TypeId} {cs : List Value} (h : Own w B t cs) : B < w.heap.size := by
  by_cases hb : B < w.heap.size
  · exact hb
  · unfold Own at h; rw [Array.getElem?_eq_none (by omega)] at h; cases h
theorem Own.set {w : World} {B : Nat} {t : TypeId} {cs : List Value} (h : Own w B t cs) (j : Nat) (v : Value) : Own (w.setCell ⟨B, j, none⟩ v) B t (cs.set j v) := by
  have hlt := h.lt
  unfold Own at h ⊢
  unfold World.setCell
  simp only [Array.getElem?_modify, if_pos]
  rw [h]
  simp
theorem Own.set_far {w : World} {B : Nat} {t : TypeId} {cs : List Value} (h : Own w B t cs) {p : Addr} (hp : p.block ≠ B) (v : Value) : Own (w.setCell p v) B t cs := by
  unfold Own at h ⊢
  rw [Below.heap_setCell w p v B (Ne.symm hp)]; exact h
theorem Own.drewN {w : World} {B : Nat} {t : TypeId} {cs : List Value} (h : Own w B t cs) (m : Nat) : Own (w.drewN m) B t cs := h
theorem Own.drew {w : World} {B : Nat} {t : TypeId} {cs : List Value} (h : Own w B t cs) : Own w.drew B t cs := h
theorem Own.below {w w' : World} {B : Nat} {t : TypeId} {cs : List Value} (h : Own w B t cs) {B' : Nat} (hb : Below B' w w') (hB : B < B') : Own w' B t cs := by
  unfold Own at h ⊢
  rw [hb.block B hB]; exact h
theorem Own.made (w : World) (t : TypeId) (z : Value) (n : Nat) : Own (w.alloc (.cells (madeCells #[z] n) t)) w.heap.size t (List.replicate n z) := by
  unfold Own
  have : madeCells #[z] n = ⟨List.replicate n z⟩ := by rw [← toList_madeCells_one]
  rw [this]
  unfold World.alloc
  simp
theorem Own.alloc {w : World} {B : Nat} {t : TypeId} {cs : List Value} (h : Own w B t cs) (o : Obj) : Own (w.alloc o) B t cs := by
  have hlt := h.lt
  unfold Own at h ⊢
  rw [Below.heap_alloc w o B hlt]; exact h
theorem below_drewN {B : Nat} {a w : World} (h : Below B a w) (n : Nat) : Below B a (w.drewN n) := ⟨h.os, h.tape, h.output, h.size, h.block⟩

/-- The cells of a list of integers. -/
def At (w : World) (b off : Nat) (zs : List Int) : Prop := ∀ j, j < zs.length → w.cell? ⟨b, off + j, none⟩ = some (.int .i64 (zs.getD j 0))
theorem At.take {w : World} {b off : Nat} {zs : List Int} (h : At w b off zs) (k : Nat) : At w b off (zs.take k) := by
  intro j hj
  rw [List.length_take] at hj
  rw [h j (by omega)]
  simp only [List.getD_eq_getElem?_getD]
  rw [List.getElem?_take, if_pos (by omega)]
theorem At.drewN {w : World} {b off : Nat} {zs : List Int} (h : At w b off zs) (m : Nat) : At (w.drewN m) b off zs := fun j hj => by rw [← h j hj]; simp
theorem At.below {w w' : World} {b off B : Nat} {zs : List Int} (h : At w b off zs) (hb : Below B w w') (hB : b < B) : At w' b off zs := fun j hj => by rw [hb.cell hB]; exact h j hj
theorem At.lt {w : World} {b off : Nat} {zs : List Int} (h : At w b off zs) (hz : 0 < zs.length) : b < w.heap.size := by
  have h := h 0 hz
  by_cases hb : b < w.heap.size
  · exact hb
  · exfalso
    simp only [World.cell?] at h
    rw [Array.getElem?_eq_none (by omega)] at h
    cases h
theorem Own.at {w : World} {B : Nat} {t : TypeId} {zs : List Int} (h : Own w B t (zs.map (Value.int .i64))) : At w B 0 zs := by
  intro j hj
  rw [Nat.zero_add]
  refine h.cell ?_
  rw [List.getElem?_map, List.getElem?_eq_getElem hj]
  simp [List.getD, List.getElem?_eq_getElem hj]
end Go.Law
namespace Go.Proofs.YtlineonmpbdkgaaDoor.Graph
open Go Go.RowKit Go.Graph Go.Law
open Go.Proofs.YtlineonmpbdkgaaDoor.Col

theorem pow_le32 {n : Nat} (h : n ≤ 5) : 2 ^ n ≤ 32 := Nat.pow_le_pow_right (by omega) h
set_option maxHeartbeats 400000 in
theorem pcheck_ok (n : Nat) (h1 : 1 ≤ n) (h5 : n ≤ 5) (x : Nat) (hx : x < 2 ^ n) (w : World) : Calls Tryd.prog 35 #[.int .i64 n, .int .i64 x] w fun e w' => e = .returned (.int .i64 0) ∧ w = w' := by
  have h32 := pow_le32 h5
  have hp1 : (x : Int) < 2 ^ n := by exact_mod_cast hx
  have hp2 : (2 : Int) ^ n ≤ 32 := by exact_mod_cast h32
  have hp0 : 0 ≤ (2 : Int) ^ n := by omega
  clear hx h32
  go_enter Tryd.func35, Tryd.ntmps35
  go_wp2_with (go_at_call 60; refine (checkN_ok _ (by omega) (by omega) _).mono ?_; rintro e w' ⟨rfl, rfl⟩)
  go_ret
  exact ⟨rfl, rfl⟩
set_option maxHeartbeats 400000 in
theorem pcheck_bad (n : Nat) (h1 : 1 ≤ n) (h5 : n ≤ 5) (x : Int) (hx : x < 0 ∨ ((2 ^ n : Nat) : Int) ≤ x) (w : World) : Calls Tryd.prog 35 #[.int .i64 n, .int .i64 x] w fun e w' => e = .returned (.int .i64 2) ∧ w = w' := by
  have h32 := pow_le32 h5
  have hp2 : (2 : Int) ^ n ≤ 32 := by exact_mod_cast h32
  have hp0 : 0 ≤ (2 : Int) ^ n := by have := Nat.zero_le (2 ^ n); exact_mod_cast this
  rcases hx with hx | hx
  · go_enter Tryd.func35, Tryd.ntmps35
    go_wp2_with (go_at_call 60; refine (checkN_ok _ (by omega) (by omega) _).mono ?_; rintro e w' ⟨rfl, rfl⟩)
    go_ret
    exact ⟨rfl, rfl⟩
  · have hx' : (2 : Int) ^ n ≤ x := by push_cast at hx; exact hx
    clear hx
    have h0 : ¬ x < 0 := by omega
    go_enter Tryd.func35, Tryd.ntmps35
    go_wp2_with (go_at_call 60; refine (checkN_ok _ (by omega) (by omega) _).mono ?_; rintro e w' ⟨rfl, rfl⟩)
    go_ret
    exact ⟨rfl, rfl⟩
theorem full_any (n : Nat) (h5 : n ≤ 5) (w : World) : Calls Tryd.prog 61 #[.int .i64 n] w fun e w' => e = .returned (.int .i64 (((2 ^ n : Nat) : Int) - 1)) ∧ w = w' := by
  have h32 := pow_le32 h5
  generalize hq : 2 ^ n = q at *
  have HQ := Lib.hid hq
  clear hq
  go_enter Tryd.func61, Tryd.ntmps61
  go_wp2_with (go_at_call 63; refine (power_any _ h5 _).mono ?_; rintro e w' ⟨rfl, rfl⟩; rw [HQ.out])
  go_ret
  exact ⟨rfl, rfl⟩

/-- The rows of a graph, by their numbers. -/
theorem row_at (r0 r1 r2 r3 r4 : Int) : ∀ k : Nat, k < 5 → ∀ w : World, (Instr.index 22 (.agg #[.int .i64 r0, .int .i64 r1, .int .i64 r2, .int .i64 r3, .int .i64 r4]) (.int .i64 (k : Int))).run Tryd.prog w = .ok (.int .i64 ([r0, r1, r2, r3, r4].getD k 0)) w
  | 0, _ => fun _ => by kernel_rfl
  | 1, _ => fun _ => by kernel_rfl
  | 2, _ => fun _ => by kernel_rfl
  | 3, _ => fun _ => by kernel_rfl
  | 4, _ => fun _ => by kernel_rfl
theorem cell_at (w : World) (n r0 r1 r2 r3 r4 : Int) (t : TypeId) : ∀ k : Nat, k < 5 → (w.alloc (.cells #[.int .i64 n, .int .i64 r0, .int .i64 r1, .int .i64 r2, .int .i64 r3, .int .i64 r4] t)).cell? ⟨w.heap.size, 1 + k, none⟩ = some (.int .i64 ([r0, r1, r2, r3, r4].getD k 0)) := by
  intro k hk
  rw [World.cell?_alloc_at _ _ _ _ rfl]
  match k, hk with
  | 0, _ => rfl
  | 1, _ => rfl
  | 2, _ => rfl
  | 3, _ => rfl
  | 4, _ => rfl
theorem below_alloc (w : World) (o : Obj) : Below w.heap.size w (w.alloc o) := (Below.refl _ _).alloc (Nat.le_refl _) o
theorem bit_is (s p : Nat) (hs : s < 32) (hp : p < 5) {b : Bool} (h : (bits BinOp.and IntKind.i64 (s : Int) (wrap64 (2 ^ p)) == 0) = b) : s / 2 ^ p % 2 = if b then 0 else 1 := by
  rw [bit_and s p hs hp] at h
  have := Go.Col.bits_and p hp s hs
  cases b
  · have h' := beq_eq_false_iff_ne.1 h
    have h2 : ¬ s / 2 ^ p % 2 = 0 := fun h0 => h' (by rw [this.2 h0]; rfl)
    simp; omega
  · have h' := eq_of_beq h
    simp only [Int.natCast_eq_zero] at h'
    simpa using this.1 h'
set_option maxHeartbeats 1000000 in
set_option maxRecDepth 100000 in
theorem check_any (n : Nat) (h1 : 1 ≤ n) (h5 : n ≤ 5) (r0 r1 r2 r3 r4 : Int) (w : World) :
    Calls Tryd.prog 34 #[.agg #[.int .i64 n, .int .i64 r0, .int .i64 r1, .int .i64 r2, .int .i64 r3, .int .i64 r4]] w fun e w' => e = .returned (.int .i64 (rows n 0 [r0, r1, r2, r3, r4])) ∧ Below w.heap.size w w' := by
  have HR := Lib.hid (row_at r0 r1 r2 r3 r4)
  have HB := Lib.hid (below_alloc w (.cells #[.int .i64 n, .int .i64 r0, .int .i64 r1, .int .i64 r2, .int .i64 r3, .int .i64 r4] 24))
  have h32 := Lib.hid (pow_le32 h5)
  go_enter Tryd.func34, Tryd.ntmps34
  go_wp2
  go_loop [15] (fun i => ∃ k : Nat, k ≤ 5 ∧ i = .int .i64 k ∧ rows n 0 [r0, r1, r2, r3, r4] = rows n k ([r0, r1, r2, r3, r4].drop k)) (fun i => 5 - (intOf i).toNat)
  case atStart => exact ⟨0, by omega, rfl, rfl⟩
  case round =>
    obtain ⟨k, hk, rfl, hsc⟩ := hrel
    have HS := Lib.hid hsc
    clear hsc
    by_cases hlt : k < 5
    · have hix := HR.out k hlt
      have HD := Lib.hid (drop_cons (l := [r0, r1, r2, r3, r4]) (k := k) hlt)
      generalize [r0, r1, r2, r3, r4].getD k 0 = x at *
      by_cases hkn : n ≤ k
      · by_cases hx : x = 0
        · have hb : (x != 0) = false := by simpa using hx
          have HX := Lib.hid hx
          clear hx
          go_wp2
          go_round
          case rel => exact ⟨k + 1, by omega, by go_num, by rw [HS.out, HD.out, rows_zero hkn HX.out]⟩
          case measure => simp [intOf]; omega
        · have hb : (x != 0) = true := by simpa using hx
          have HX := Lib.hid hx
          clear hx
          go_wp2
          go_ret
          exact ⟨ret_int (by rw [HS.out, HD.out, rows_far hkn HX.out]), HB.out⟩
      · have hkn' : k < n := by omega
        by_cases hx : x < 0 ∨ ((2 ^ n : Nat) : Int) ≤ x
        · have HX := Lib.hid hx
          clear hx
          go_wp2_with (go_at_call 35; refine (pcheck_bad n h1 h5 x HX.out _).mono ?_; rintro e w' ⟨rfl, rfl⟩)
          go_ret
          exact ⟨ret_int (by rw [HS.out, HD.out, rows_range hkn' HX.out]), HB.out⟩
        · obtain ⟨q, rfl⟩ := Int.eq_ofNat_of_zero_le (show 0 ≤ x by omega)
          have hq : q < 2 ^ n := by omega
          have hq32 : q < 32 := Nat.lt_of_lt_of_le hq h32.out
          have HX := Lib.hid hq
          clear hx hq
          go_wp2_with (go_at_call 35; refine (pcheck_ok n h1 h5 q HX.out _).mono ?_; rintro e w' ⟨rfl, rfl⟩)
          · have hb : (bits BinOp.and IntKind.i64 (↑q) (wrap64 (2 ^ k)) == 0) = true := by assumption
            have hbit := bit_is q k hq32 (by omega) hb
            go_ret
            exact ⟨ret_int (by rw [HS.out, HD.out, rows_self hkn' HX.out (by simpa using hbit)]), HB.out⟩
          · have hb : (bits BinOp.and IntKind.i64 (↑q) (wrap64 (2 ^ k)) == 0) = false := by assumption
            have hbit := bit_is q k hq32 (by omega) hb
            go_round
            case rel => exact ⟨k + 1, by omega, by go_num, by rw [HS.out, HD.out, rows_more hkn' HX.out (by simpa using hbit)]⟩
            case measure => simp [intOf]; omega
    · have hk' : k = 5 := by omega
      subst hk'
      go_wp2
      go_ret
      exact ⟨ret_int (by rw [HS.out]; rfl), HB.out⟩
set_option maxHeartbeats 1000000 in
set_option maxRecDepth 100000 in
theorem rcheck_any (n : Nat) (h1 : 1 ≤ n) (h5 : n ≤ 5) (r0 r1 r2 r3 r4 : Int) (w : World) :
    Calls Tryd.prog 36 #[.agg #[.int .i64 n, .int .i64 r0, .int .i64 r1, .int .i64 r2, .int .i64 r3, .int .i64 r4]] w fun e w' => e = .returned (.int .i64 (rows n 0 [r0, r1, r2, r3, r4])) ∧ Below w.heap.size w w' := by
  have HR := Lib.hid (cell_at w n r0 r1 r2 r3 r4 24)
  have HB := Lib.hid (below_alloc w (.cells #[.int .i64 n, .int .i64 r0, .int .i64 r1, .int .i64 r2, .int .i64 r3, .int .i64 r4] 24))
  have h32 := Lib.hid (pow_le32 h5)
  go_enter Tryd.func36, Tryd.ntmps36
  go_wp2
  go_loop [3] (fun i => ∃ k : Nat, k ≤ 5 ∧ i = .int .i64 k ∧ rows n 0 [r0, r1, r2, r3, r4] = rows n k ([r0, r1, r2, r3, r4].drop k)) (fun i => 5 - (intOf i).toNat)
  case atStart => exact ⟨0, by omega, rfl, rfl⟩
  case round =>
    obtain ⟨k, hk, rfl, hsc⟩ := hrel
    have HS := Lib.hid hsc
    clear hsc
    by_cases hlt : k < 5
    · have hcell := HR.out k hlt
      have HD := Lib.hid (drop_cons (l := [r0, r1, r2, r3, r4]) (k := k) hlt)
      generalize [r0, r1, r2, r3, r4].getD k 0 = x at *
      by_cases hkn : n ≤ k
      · by_cases hx : x = 0
        · have hb : (x != 0) = false := by simpa using hx
          have HX := Lib.hid hx
          clear hx
          go_wp2
          go_round
          case rel => exact ⟨k + 1, by omega, by go_num, by rw [HS.out, HD.out, rows_zero hkn HX.out]⟩
          case measure => simp [intOf]; omega
        · have hb : (x != 0) = true := by simpa using hx
          have HX := Lib.hid hx
          clear hx
          go_wp2
          go_ret
          exact ⟨ret_int (by rw [HS.out, HD.out, rows_far hkn HX.out]), HB.out⟩
      · have hkn' : k < n := by omega
        by_cases hx0 : x < 0
        · go_wp2
          go_ret
          exact ⟨ret_int (by rw [HS.out, HD.out, rows_range hkn' (.inl hx0)]), HB.out⟩
        · obtain ⟨q, rfl⟩ := Int.eq_ofNat_of_zero_le (show 0 ≤ x by omega)
          by_cases hq : q < 2 ^ n
          · have hq32 : q < 32 := Nat.lt_of_lt_of_le hq h32.out
            have HQ := Lib.hid hq
            have hle : ¬ ((2 ^ n : Nat) : Int) - 1 < (q : Int) := by omega
            generalize hP : ((2 ^ n : Nat) : Int) = P at *
            have HP := Lib.hid hP
            clear hq hP
            rcases Nat.mod_two_eq_zero_or_one (q / 2 ^ k) with hno | hyes
            · have HN := Lib.hid hno
              have HX := Lib.hid (show (q / 2 ^ k % 2 == 1) = false by simp [hno])
              clear hno
              go_wp2_with (first | (go_at_call 61; refine (full_any n h5 _).mono ?_; rintro e w' ⟨rfl, rfl⟩; rw [HP.out]) | (go_at_call 62; refine (has_any q k hq32 (by omega) _).mono ?_; rintro e w' ⟨rfl, rfl⟩; rw [HX.out]))
              go_ret
              exact ⟨ret_int (by rw [HS.out, HD.out, rows_self hkn' HQ.out HN.out]), HB.out⟩
            · have HN := Lib.hid hyes
              have HX := Lib.hid (show (q / 2 ^ k % 2 == 1) = true by simp [hyes])
              clear hyes
              go_wp2_with (first | (go_at_call 61; refine (full_any n h5 _).mono ?_; rintro e w' ⟨rfl, rfl⟩; rw [HP.out]) | (go_at_call 62; refine (has_any q k hq32 (by omega) _).mono ?_; rintro e w' ⟨rfl, rfl⟩; rw [HX.out]))
              go_round
              case rel => exact ⟨k + 1, by omega, by go_num, by rw [HS.out, HD.out, rows_more hkn' HQ.out HN.out]⟩
              case measure => simp [intOf]; omega
          · have hgt : ((2 ^ n : Nat) : Int) - 1 < (q : Int) := by omega
            have HQ := Lib.hid (show ((2 ^ n : Nat) : Int) ≤ (q : Int) by omega)
            generalize hP : ((2 ^ n : Nat) : Int) = P at *
            have HP := Lib.hid hP
            clear hP hq
            go_wp2_with (go_at_call 61; refine (full_any n h5 _).mono ?_; rintro e w' ⟨rfl, rfl⟩; rw [HP.out])
            go_ret
            exact ⟨ret_int (by rw [HS.out, HD.out, rows_range hkn' (.inr (by rw [HP.out]; exact HQ.out))]), HB.out⟩
    · have hk' : k = 5 := by omega
      subst hk'
      go_wp2
      go_ret
      exact ⟨ret_int (by rw [HS.out]; rfl), HB.out⟩
theorem check_bad (n : Int) (h : n < 1 ∨ 5 < n) (r0 r1 r2 r3 r4 : Int) (w : World) :
    Calls Tryd.prog 34 #[.agg #[.int .i64 n, .int .i64 r0, .int .i64 r1, .int .i64 r2, .int .i64 r3, .int .i64 r4]] w fun e w' => e = .returned (.int .i64 2) ∧ Below w.heap.size w w' := by
  have HB := Lib.hid (below_alloc w (.cells #[.int .i64 n, .int .i64 r0, .int .i64 r1, .int .i64 r2, .int .i64 r3, .int .i64 r4] 24))
  rcases h with h | h
  · go_enter Tryd.func34, Tryd.ntmps34
    go_wp2
    go_ret
    exact ⟨rfl, HB.out⟩
  · have h1 : ¬ n < 1 := by omega
    go_enter Tryd.func34, Tryd.ntmps34
    go_wp2
    go_ret
    exact ⟨rfl, HB.out⟩
theorem rcheck_bad (n : Int) (h : n < 1 ∨ 5 < n) (r0 r1 r2 r3 r4 : Int) (w : World) :
    Calls Tryd.prog 36 #[.agg #[.int .i64 n, .int .i64 r0, .int .i64 r1, .int .i64 r2, .int .i64 r3, .int .i64 r4]] w fun e w' => e = .returned (.int .i64 2) ∧ Below w.heap.size w w' := by
  have HB := Lib.hid (below_alloc w (.cells #[.int .i64 n, .int .i64 r0, .int .i64 r1, .int .i64 r2, .int .i64 r3, .int .i64 r4] 24))
  rcases h with h | h
  · go_enter Tryd.func36, Tryd.ntmps36
    go_wp2
    go_ret
    exact ⟨rfl, HB.out⟩
  · have h1 : ¬ n < 1 := by omega
    go_enter Tryd.func36, Tryd.ntmps36
    go_wp2
    go_ret
    exact ⟨rfl, HB.out⟩
theorem gcheck (n r0 r1 r2 r3 r4 : Int) (w : World) :
    Calls Tryd.prog 34 #[.agg #[.int .i64 n, .int .i64 r0, .int .i64 r1, .int .i64 r2, .int .i64 r3, .int .i64 r4]] w fun e w' => e = .returned (.int .i64 (check n [r0, r1, r2, r3, r4])) ∧ Below w.heap.size w w' := by
  unfold check
  by_cases h : n < 1 ∨ 5 < n
  · rw [if_pos h]; exact check_bad n h _ _ _ _ _ w
  · rw [if_neg h]
    obtain ⟨k, rfl⟩ := Int.eq_ofNat_of_zero_le (show 0 ≤ n by omega)
    exact check_any k (by omega) (by omega) _ _ _ _ _ w
theorem grcheck (n r0 r1 r2 r3 r4 : Int) (w : World) :
    Calls Tryd.prog 36 #[.agg #[.int .i64 n, .int .i64 r0, .int .i64 r1, .int .i64 r2, .int .i64 r3, .int .i64 r4]] w fun e w' => e = .returned (.int .i64 (check n [r0, r1, r2, r3, r4])) ∧ Below w.heap.size w w' := by
  unfold check
  by_cases h : n < 1 ∨ 5 < n
  · rw [if_pos h]; exact rcheck_bad n h _ _ _ _ _ w
  · rw [if_neg h]
    obtain ⟨k, rfl⟩ := Int.eq_ofNat_of_zero_le (show 0 ≤ n by omega)
    exact rcheck_any k (by omega) (by omega) _ _ _ _ _ w
end Go.Proofs.YtlineonmpbdkgaaDoor.Graph
