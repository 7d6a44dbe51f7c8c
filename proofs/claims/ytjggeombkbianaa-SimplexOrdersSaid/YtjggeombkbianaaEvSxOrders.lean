/-
  SimplexOrders answers true.
-/
import Derived.Test.YtjggeombkbianaaEvSxEqual
import Derived.Test.YtjggeombkbianaaEvSxSeat
namespace Go.Proofs.Ytjggeombkbianaa.Sx
open Go Go.RowKit Go.Law Go.Sx
open Go.Proofs.Ytjggeombkbianaa.Ev (awake)

theorem add_zero (a : Addr) : a.add 0 = a := by cases a; simp [Addr.add]
set_option maxRecDepth 100000 in
theorem slice_to (a : Option Addr) (len cap K : Nat) (hK : K ≤ len) (hc : len ≤ cap) (w : World) : (Instr.sliceAt 22 (.slice a len cap) none (some (.int .i64 (K : Int))) none).run Try.prog w = .ok (.slice a K cap) w := by
  rw [run_sliceAt_slice w 22 _ _ _ _ (by kernel_rfl), run_slice_h w 22 a len cap (by kernel_rfl) .i64 K (by omega) (by omega)]
  have hs : (sizeOf (Try.prog.elem 22)).run Try.prog w = .ok 2 w := by kernel_rfl
  rw [hs]
  show Result.ok (sliced a 0 (K : Int).toNat cap 2) w = _
  unfold sliced
  rw [Int.toNat_natCast, Nat.zero_mul, Nat.sub_zero, Nat.sub_zero]
  congr 2
  split
  · rfl
  · cases a with
    | none => rfl
    | some a => simp [add_zero]
theorem vx_take {l : List V} {K j : Nat} (h : j < K) : vx (l.take K) j = vx l j := by
  unfold vx
  simp only [List.getD_eq_getElem?_getD, List.getElem?_take, if_pos h]
theorem VIn.take {W : World} {a : Option Addr} {len cap b off : Nat} {l : List V} (h : VIn W a len cap b off l) {K : Nat} (hK : K ≤ len) : VIn W a K cap b off (l.take K) :=
  ⟨by rw [List.length_take, h.size]; omega, fun h0 => h.head (by omega), fun h0 => h.old (by omega), fun k hk => by rw [vx_take hk]; exact h.cells k (by omega), Nat.le_trans hK h.room, h.top⟩
theorem neg_small {x : Int} (h1 : -1 ≤ x) (h2 : x ≤ 1) : IntKind.i64.wrap (-x) = -x ∧ wrap64 (-x) = -x := by
  constructor
  · rw [IntKind.wrap_i64]; omega
  · unfold wrap64; omega
theorem add_small {x y : Int} (h1 : -1 ≤ x) (h2 : x ≤ 1) (h3 : -1 ≤ y) (h4 : y ≤ 1) : IntKind.i64.wrap (x + y) = x + y ∧ wrap64 (x + y) = x + y := by
  constructor
  · rw [IntKind.wrap_i64]; omega
  · unfold wrap64; omega
set_option maxRecDepth 100000 in
set_option maxHeartbeats 1000000 in
theorem far1 (a1 a2 a3 : Option Addr) (n1 n2 n3 k1 k2 k3 : Nat) (h1 : ¬ n1 ≤ 10) (w : World) :
    Calls Try.prog 6 #[.slice a1 n1 k1, .slice a2 n2 k2, .slice a3 n3 k3] w fun e w' => e = .returned (.bool true) ∧ Below w.heap.size w w' := by
  have HA := Lib.hid (awake w)
  have F1 := Lib.hid (few_any a1 n1 k1)
  rw [decide_eq_false h1] at F1
  clear h1
  go_enter Try.func6, Try.ntmps6
  go_wp2_with first
    | (go_at_call 10; with_reducible refine (F1.out _).mono ?_; rintro e w' ⟨rfl, rfl⟩)
    | (go_at_call 11; refine (HA.out).mono ?_; rintro e w1 ⟨rfl, hb⟩; have T := Lib.hid hb; clear hb)
  go_ret
  exact ⟨rfl, T.out⟩
set_option maxRecDepth 100000 in
set_option maxHeartbeats 1000000 in
theorem far2 (a1 a2 a3 : Option Addr) (n1 n2 n3 k1 k2 k3 : Nat) (h1 : n1 ≤ 10) (h2 : ¬ n2 ≤ 10) (w : World) :
    Calls Try.prog 6 #[.slice a1 n1 k1, .slice a2 n2 k2, .slice a3 n3 k3] w fun e w' => e = .returned (.bool true) ∧ Below w.heap.size w w' := by
  have HA := Lib.hid (awake w)
  have F1 := Lib.hid (few_any a1 n1 k1)
  rw [decide_eq_true h1] at F1
  clear h1
  have F2 := Lib.hid (few_any a2 n2 k2)
  rw [decide_eq_false h2] at F2
  clear h2
  go_enter Try.func6, Try.ntmps6
  go_wp2_with first
    | (go_at_call 10; with_reducible refine (F1.out _).mono ?_; rintro e w' ⟨rfl, rfl⟩)
    | (go_at_call 10; with_reducible refine (F2.out _).mono ?_; rintro e w' ⟨rfl, rfl⟩)
    | (go_at_call 11; refine (HA.out).mono ?_; rintro e w1 ⟨rfl, hb⟩; have T := Lib.hid hb; clear hb)
  go_ret
  exact ⟨rfl, T.out⟩
set_option maxRecDepth 100000 in
set_option maxHeartbeats 1000000 in
theorem far3 (a1 a2 a3 : Option Addr) (n1 n2 n3 k1 k2 k3 : Nat) (h1 : n1 ≤ 10) (h2 : n2 ≤ 10) (h3 : ¬ n3 ≤ 10) (w : World) :
    Calls Try.prog 6 #[.slice a1 n1 k1, .slice a2 n2 k2, .slice a3 n3 k3] w fun e w' => e = .returned (.bool true) ∧ Below w.heap.size w w' := by
  have HA := Lib.hid (awake w)
  have F1 := Lib.hid (few_any a1 n1 k1)
  rw [decide_eq_true h1] at F1
  clear h1
  have F2 := Lib.hid (few_any a2 n2 k2)
  rw [decide_eq_true h2] at F2
  clear h2
  have F3 := Lib.hid (few_any a3 n3 k3)
  rw [decide_eq_false h3] at F3
  clear h3
  go_enter Try.func6, Try.ntmps6
  go_wp2_with first
    | (go_at_call 10; with_reducible refine (F1.out _).mono ?_; rintro e w' ⟨rfl, rfl⟩)
    | (go_at_call 10; with_reducible refine (F2.out _).mono ?_; rintro e w' ⟨rfl, rfl⟩)
    | (go_at_call 10; with_reducible refine (F3.out _).mono ?_; rintro e w' ⟨rfl, rfl⟩)
    | (go_at_call 11; refine (HA.out).mono ?_; rintro e w1 ⟨rfl, hb⟩; have T := Lib.hid hb; clear hb)
  go_ret
  exact ⟨rfl, T.out⟩
set_option maxRecDepth 100000 in
set_option maxHeartbeats 4000000 in
theorem near1 (a1 a2 a3 : Option Addr) (n1 n2 n3 k1 k2 k3 : Nat) (w : World) (l1 : n1 ≤ 10) (l2 : n2 ≤ 10) (l3 : n3 ≤ 10) (hr : n1 ≤ k1) (x y z : Int) (d : Bool) (hx1 : -1 ≤ x) (hx2 : x ≤ 1) (hy1 : -1 ≤ y) (hy2 : y ≤ 1) (hd : (x == 0) = d)
    (g1 : ∀ w1, Below w.heap.size w w1 → Calls Try.prog 25 #[.slice a1 n1 k1, .slice a2 n2 k2] w1 fun e w' => e = .returned (.int .i64 x) ∧ Below w1.heap.size w1 w')
    (g2 : ∀ w1, Below w.heap.size w w1 → Calls Try.prog 25 #[.slice a2 n2 k2, .slice a3 n3 k3] w1 fun e w' => e = .returned (.int .i64 y) ∧ Below w1.heap.size w1 w')
    (g3 : ∀ w1, Below w.heap.size w w1 → Calls Try.prog 25 #[.slice a1 n1 k1, .slice a3 n3 k3] w1 fun e w' => e = .returned (.int .i64 z) ∧ Below w1.heap.size w1 w')
    (g4 : ∀ w1, Below w.heap.size w w1 → Calls Try.prog 25 #[.slice a2 n2 k2, .slice a1 n1 k1] w1 fun e w' => e = .returned (.int .i64 (-x)) ∧ Below w1.heap.size w1 w')
    (g5 : ∀ w1, Below w.heap.size w w1 → Calls Try.prog 38 #[.slice a1 n1 k1, .slice a2 n2 k2] w1 fun e w' => e = .returned (.bool d) ∧ Below w1.heap.size w1 w')
    (g6 : ∀ w1, Below w.heap.size w w1 → ∀ i, i < n1 → Calls Try.prog 25 #[.slice a1 i k1, .slice a1 n1 k1] w1 fun e w' => e = .returned (.int .i64 (-1)) ∧ Below w1.heap.size w1 w')
    (c1 : ¬ x ≤ 0) :
    Calls Try.prog 6 #[.slice a1 n1 k1, .slice a2 n2 k2, .slice a3 n3 k3] w fun e w' => e = .returned (.bool true) ∧ Below w.heap.size w w' := by
  have HA := Lib.hid awake
  have G1 := Lib.hid g1
  have G2 := Lib.hid g2
  have G3 := Lib.hid g3
  have G4 := Lib.hid g4
  have G5 := Lib.hid g5
  have G6 := Lib.hid g6
  have HS := Lib.hid (fun i (hi : i ≤ n1) => slice_to a1 n1 k1 i hi hr)
  have F1 := Lib.hid (few_any a1 n1 k1)
  have F2 := Lib.hid (few_any a2 n2 k2)
  have F3 := Lib.hid (few_any a3 n3 k3)
  rw [decide_eq_true l1] at F1
  rw [decide_eq_true l2] at F2
  rw [decide_eq_true l3] at F3
  obtain ⟨m1, m2⟩ := neg_small hx1 hx2
  obtain ⟨s1, s2⟩ := add_small hx1 hx2 hy1 hy2
  have x1 : ¬ x < -1 := by omega
  have x2 : ¬ x > 1 := by omega
  have T0 := Lib.hid (Below.refl w.heap.size w)
  clear g1 g2 g3 g4 g5 g6 l2 l3 hx1 hx2 hy1 hy2 hr
  go_enter Try.func6, Try.ntmps6
  go_wp2_with first
    | (go_at_call 10; with_reducible refine (F1.out _).mono ?_; rintro e w' ⟨rfl, rfl⟩)
    | (go_at_call 10; with_reducible refine (F2.out _).mono ?_; rintro e w' ⟨rfl, rfl⟩)
    | (go_at_call 10; with_reducible refine (F3.out _).mono ?_; rintro e w' ⟨rfl, rfl⟩)
        | (go_at_call 25; with_reducible refine (G1.out _ T0.out).mono ?_; rintro e w1 ⟨rfl, hb⟩; have T1 := Lib.hid (T0.out.trans (bel_le hb T0.out.size)); clear hb)
        | (go_at_call 25; with_reducible refine (G2.out _ T1.out).mono ?_; rintro e w1 ⟨rfl, hb⟩; have T2 := Lib.hid (T1.out.trans (bel_le hb T1.out.size)); clear hb)
        | (go_at_call 25; with_reducible refine (G3.out _ T2.out).mono ?_; rintro e w1 ⟨rfl, hb⟩; have T3 := Lib.hid (T2.out.trans (bel_le hb T2.out.size)); clear hb)
        | (go_at_call 25; with_reducible refine (G4.out _ T3.out).mono ?_; rintro e w1 ⟨rfl, hb⟩; have T4 := Lib.hid (T3.out.trans (bel_le hb T3.out.size)); clear hb)
        | (go_at_call 38; with_reducible refine (G5.out _ T4.out).mono ?_; rintro e w1 ⟨rfl, hb⟩; have T5 := Lib.hid (T4.out.trans (bel_le hb T4.out.size)); clear hb)
  clear m1 m2 s1 s2 x1 x2 hd
  go_loopw [80] (fun i wr => ∃ k : Nat, k ≤ n1 ∧ i = .int .i64 k ∧ Below w.heap.size w wr) (fun i _ => n1 - (intOf i).toNat)
  case atStart => exact ⟨0, Nat.zero_le _, rfl, T5.out⟩
  case round =>
    obtain ⟨k, hk, rfl, hB⟩ := hrel
    have T6 := Lib.hid hB
    clear hB
    by_cases hlt : k < n1
    · have hs := HS.out k hk
      have G7 := Lib.hid (fun w1 hb => G6.out w1 hb k hlt)
      go_wp2_with (go_at_call 25; with_reducible refine (G7.out _ T6.out).mono ?_; rintro e w1 ⟨rfl, hb⟩; have T7 := Lib.hid (T6.out.trans (bel_le hb T6.out.size)); clear hb)
      go_roundw
      case rel => exact ⟨k + 1, by omega, by go_num, T7.out⟩
      case measure => simp [intOf]; omega
    · obtain rfl : k = n1 := by omega
      go_wp2_with (go_at_call 11; refine (HA.out _).mono ?_; rintro e w1 ⟨rfl, hb⟩; have T7 := Lib.hid (T6.out.trans (bel_le hb T6.out.size)); clear hb)
      go_ret
      exact ⟨rfl, T7.out⟩
set_option maxRecDepth 100000 in
set_option maxHeartbeats 4000000 in
theorem near2 (a1 a2 a3 : Option Addr) (n1 n2 n3 k1 k2 k3 : Nat) (w : World) (l1 : n1 ≤ 10) (l2 : n2 ≤ 10) (l3 : n3 ≤ 10) (hr : n1 ≤ k1) (x y z : Int) (d : Bool) (hx1 : -1 ≤ x) (hx2 : x ≤ 1) (hy1 : -1 ≤ y) (hy2 : y ≤ 1) (hd : (x == 0) = d)
    (g1 : ∀ w1, Below w.heap.size w w1 → Calls Try.prog 25 #[.slice a1 n1 k1, .slice a2 n2 k2] w1 fun e w' => e = .returned (.int .i64 x) ∧ Below w1.heap.size w1 w')
    (g2 : ∀ w1, Below w.heap.size w w1 → Calls Try.prog 25 #[.slice a2 n2 k2, .slice a3 n3 k3] w1 fun e w' => e = .returned (.int .i64 y) ∧ Below w1.heap.size w1 w')
    (g3 : ∀ w1, Below w.heap.size w w1 → Calls Try.prog 25 #[.slice a1 n1 k1, .slice a3 n3 k3] w1 fun e w' => e = .returned (.int .i64 z) ∧ Below w1.heap.size w1 w')
    (g4 : ∀ w1, Below w.heap.size w w1 → Calls Try.prog 25 #[.slice a2 n2 k2, .slice a1 n1 k1] w1 fun e w' => e = .returned (.int .i64 (-x)) ∧ Below w1.heap.size w1 w')
    (g5 : ∀ w1, Below w.heap.size w w1 → Calls Try.prog 38 #[.slice a1 n1 k1, .slice a2 n2 k2] w1 fun e w' => e = .returned (.bool d) ∧ Below w1.heap.size w1 w')
    (g6 : ∀ w1, Below w.heap.size w w1 → ∀ i, i < n1 → Calls Try.prog 25 #[.slice a1 i k1, .slice a1 n1 k1] w1 fun e w' => e = .returned (.int .i64 (-1)) ∧ Below w1.heap.size w1 w')
    (c1 : x ≤ 0) (c2 : ¬ y ≤ 0) :
    Calls Try.prog 6 #[.slice a1 n1 k1, .slice a2 n2 k2, .slice a3 n3 k3] w fun e w' => e = .returned (.bool true) ∧ Below w.heap.size w w' := by
  have HA := Lib.hid awake
  have G1 := Lib.hid g1
  have G2 := Lib.hid g2
  have G3 := Lib.hid g3
  have G4 := Lib.hid g4
  have G5 := Lib.hid g5
  have G6 := Lib.hid g6
  have HS := Lib.hid (fun i (hi : i ≤ n1) => slice_to a1 n1 k1 i hi hr)
  have F1 := Lib.hid (few_any a1 n1 k1)
  have F2 := Lib.hid (few_any a2 n2 k2)
  have F3 := Lib.hid (few_any a3 n3 k3)
  rw [decide_eq_true l1] at F1
  rw [decide_eq_true l2] at F2
  rw [decide_eq_true l3] at F3
  obtain ⟨m1, m2⟩ := neg_small hx1 hx2
  obtain ⟨s1, s2⟩ := add_small hx1 hx2 hy1 hy2
  have x1 : ¬ x < -1 := by omega
  have x2 : ¬ x > 1 := by omega
  have T0 := Lib.hid (Below.refl w.heap.size w)
  clear g1 g2 g3 g4 g5 g6 l2 l3 hx1 hx2 hy1 hy2 hr
  go_enter Try.func6, Try.ntmps6
  go_wp2_with first
    | (go_at_call 10; with_reducible refine (F1.out _).mono ?_; rintro e w' ⟨rfl, rfl⟩)
    | (go_at_call 10; with_reducible refine (F2.out _).mono ?_; rintro e w' ⟨rfl, rfl⟩)
    | (go_at_call 10; with_reducible refine (F3.out _).mono ?_; rintro e w' ⟨rfl, rfl⟩)
        | (go_at_call 25; with_reducible refine (G1.out _ T0.out).mono ?_; rintro e w1 ⟨rfl, hb⟩; have T1 := Lib.hid (T0.out.trans (bel_le hb T0.out.size)); clear hb)
        | (go_at_call 25; with_reducible refine (G2.out _ T1.out).mono ?_; rintro e w1 ⟨rfl, hb⟩; have T2 := Lib.hid (T1.out.trans (bel_le hb T1.out.size)); clear hb)
        | (go_at_call 25; with_reducible refine (G3.out _ T2.out).mono ?_; rintro e w1 ⟨rfl, hb⟩; have T3 := Lib.hid (T2.out.trans (bel_le hb T2.out.size)); clear hb)
        | (go_at_call 25; with_reducible refine (G4.out _ T3.out).mono ?_; rintro e w1 ⟨rfl, hb⟩; have T4 := Lib.hid (T3.out.trans (bel_le hb T3.out.size)); clear hb)
        | (go_at_call 38; with_reducible refine (G5.out _ T4.out).mono ?_; rintro e w1 ⟨rfl, hb⟩; have T5 := Lib.hid (T4.out.trans (bel_le hb T4.out.size)); clear hb)
  clear m1 m2 s1 s2 x1 x2 hd
  go_loopw [80] (fun i wr => ∃ k : Nat, k ≤ n1 ∧ i = .int .i64 k ∧ Below w.heap.size w wr) (fun i _ => n1 - (intOf i).toNat)
  case atStart => exact ⟨0, Nat.zero_le _, rfl, T5.out⟩
  case round =>
    obtain ⟨k, hk, rfl, hB⟩ := hrel
    have T6 := Lib.hid hB
    clear hB
    by_cases hlt : k < n1
    · have hs := HS.out k hk
      have G7 := Lib.hid (fun w1 hb => G6.out w1 hb k hlt)
      go_wp2_with (go_at_call 25; with_reducible refine (G7.out _ T6.out).mono ?_; rintro e w1 ⟨rfl, hb⟩; have T7 := Lib.hid (T6.out.trans (bel_le hb T6.out.size)); clear hb)
      go_roundw
      case rel => exact ⟨k + 1, by omega, by go_num, T7.out⟩
      case measure => simp [intOf]; omega
    · obtain rfl : k = n1 := by omega
      go_wp2_with (go_at_call 11; refine (HA.out _).mono ?_; rintro e w1 ⟨rfl, hb⟩; have T7 := Lib.hid (T6.out.trans (bel_le hb T6.out.size)); clear hb)
      go_ret
      exact ⟨rfl, T7.out⟩
set_option maxRecDepth 100000 in
set_option maxHeartbeats 4000000 in
theorem near3 (a1 a2 a3 : Option Addr) (n1 n2 n3 k1 k2 k3 : Nat) (w : World) (l1 : n1 ≤ 10) (l2 : n2 ≤ 10) (l3 : n3 ≤ 10) (hr : n1 ≤ k1) (x y z : Int) (d : Bool) (hx1 : -1 ≤ x) (hx2 : x ≤ 1) (hy1 : -1 ≤ y) (hy2 : y ≤ 1) (hd : (x == 0) = d)
    (g1 : ∀ w1, Below w.heap.size w w1 → Calls Try.prog 25 #[.slice a1 n1 k1, .slice a2 n2 k2] w1 fun e w' => e = .returned (.int .i64 x) ∧ Below w1.heap.size w1 w')
    (g2 : ∀ w1, Below w.heap.size w w1 → Calls Try.prog 25 #[.slice a2 n2 k2, .slice a3 n3 k3] w1 fun e w' => e = .returned (.int .i64 y) ∧ Below w1.heap.size w1 w')
    (g3 : ∀ w1, Below w.heap.size w w1 → Calls Try.prog 25 #[.slice a1 n1 k1, .slice a3 n3 k3] w1 fun e w' => e = .returned (.int .i64 z) ∧ Below w1.heap.size w1 w')
    (g4 : ∀ w1, Below w.heap.size w w1 → Calls Try.prog 25 #[.slice a2 n2 k2, .slice a1 n1 k1] w1 fun e w' => e = .returned (.int .i64 (-x)) ∧ Below w1.heap.size w1 w')
    (g5 : ∀ w1, Below w.heap.size w w1 → Calls Try.prog 38 #[.slice a1 n1 k1, .slice a2 n2 k2] w1 fun e w' => e = .returned (.bool d) ∧ Below w1.heap.size w1 w')
    (g6 : ∀ w1, Below w.heap.size w w1 → ∀ i, i < n1 → Calls Try.prog 25 #[.slice a1 i k1, .slice a1 n1 k1] w1 fun e w' => e = .returned (.int .i64 (-1)) ∧ Below w1.heap.size w1 w')
    (c1 : x ≤ 0) (c2 : y ≤ 0) (c3 : ¬ z > 0) (c4 : (z == 0) = false) :
    Calls Try.prog 6 #[.slice a1 n1 k1, .slice a2 n2 k2, .slice a3 n3 k3] w fun e w' => e = .returned (.bool true) ∧ Below w.heap.size w w' := by
  have HA := Lib.hid awake
  have G1 := Lib.hid g1
  have G2 := Lib.hid g2
  have G3 := Lib.hid g3
  have G4 := Lib.hid g4
  have G5 := Lib.hid g5
  have G6 := Lib.hid g6
  have HS := Lib.hid (fun i (hi : i ≤ n1) => slice_to a1 n1 k1 i hi hr)
  have F1 := Lib.hid (few_any a1 n1 k1)
  have F2 := Lib.hid (few_any a2 n2 k2)
  have F3 := Lib.hid (few_any a3 n3 k3)
  rw [decide_eq_true l1] at F1
  rw [decide_eq_true l2] at F2
  rw [decide_eq_true l3] at F3
  obtain ⟨m1, m2⟩ := neg_small hx1 hx2
  obtain ⟨s1, s2⟩ := add_small hx1 hx2 hy1 hy2
  have x1 : ¬ x < -1 := by omega
  have x2 : ¬ x > 1 := by omega
  have T0 := Lib.hid (Below.refl w.heap.size w)
  clear g1 g2 g3 g4 g5 g6 l2 l3 hx1 hx2 hy1 hy2 hr
  go_enter Try.func6, Try.ntmps6
  go_wp2_with first
    | (go_at_call 10; with_reducible refine (F1.out _).mono ?_; rintro e w' ⟨rfl, rfl⟩)
    | (go_at_call 10; with_reducible refine (F2.out _).mono ?_; rintro e w' ⟨rfl, rfl⟩)
    | (go_at_call 10; with_reducible refine (F3.out _).mono ?_; rintro e w' ⟨rfl, rfl⟩)
        | (go_at_call 25; with_reducible refine (G1.out _ T0.out).mono ?_; rintro e w1 ⟨rfl, hb⟩; have T1 := Lib.hid (T0.out.trans (bel_le hb T0.out.size)); clear hb)
        | (go_at_call 25; with_reducible refine (G2.out _ T1.out).mono ?_; rintro e w1 ⟨rfl, hb⟩; have T2 := Lib.hid (T1.out.trans (bel_le hb T1.out.size)); clear hb)
        | (go_at_call 25; with_reducible refine (G3.out _ T2.out).mono ?_; rintro e w1 ⟨rfl, hb⟩; have T3 := Lib.hid (T2.out.trans (bel_le hb T2.out.size)); clear hb)
        | (go_at_call 25; with_reducible refine (G4.out _ T3.out).mono ?_; rintro e w1 ⟨rfl, hb⟩; have T4 := Lib.hid (T3.out.trans (bel_le hb T3.out.size)); clear hb)
        | (go_at_call 38; with_reducible refine (G5.out _ T4.out).mono ?_; rintro e w1 ⟨rfl, hb⟩; have T5 := Lib.hid (T4.out.trans (bel_le hb T4.out.size)); clear hb)
  clear m1 m2 s1 s2 x1 x2 hd
  go_loopw [80] (fun i wr => ∃ k : Nat, k ≤ n1 ∧ i = .int .i64 k ∧ Below w.heap.size w wr) (fun i _ => n1 - (intOf i).toNat)
  case atStart => exact ⟨0, Nat.zero_le _, rfl, T5.out⟩
  case round =>
    obtain ⟨k, hk, rfl, hB⟩ := hrel
    have T6 := Lib.hid hB
    clear hB
    by_cases hlt : k < n1
    · have hs := HS.out k hk
      have G7 := Lib.hid (fun w1 hb => G6.out w1 hb k hlt)
      go_wp2_with (go_at_call 25; with_reducible refine (G7.out _ T6.out).mono ?_; rintro e w1 ⟨rfl, hb⟩; have T7 := Lib.hid (T6.out.trans (bel_le hb T6.out.size)); clear hb)
      go_roundw
      case rel => exact ⟨k + 1, by omega, by go_num, T7.out⟩
      case measure => simp [intOf]; omega
    · obtain rfl : k = n1 := by omega
      go_wp2_with (go_at_call 11; refine (HA.out _).mono ?_; rintro e w1 ⟨rfl, hb⟩; have T7 := Lib.hid (T6.out.trans (bel_le hb T6.out.size)); clear hb)
      go_ret
      exact ⟨rfl, T7.out⟩
set_option maxRecDepth 100000 in
set_option maxHeartbeats 4000000 in
theorem near4 (a1 a2 a3 : Option Addr) (n1 n2 n3 k1 k2 k3 : Nat) (w : World) (l1 : n1 ≤ 10) (l2 : n2 ≤ 10) (l3 : n3 ≤ 10) (hr : n1 ≤ k1) (x y z : Int) (d : Bool) (hx1 : -1 ≤ x) (hx2 : x ≤ 1) (hy1 : -1 ≤ y) (hy2 : y ≤ 1) (hd : (x == 0) = d)
    (g1 : ∀ w1, Below w.heap.size w w1 → Calls Try.prog 25 #[.slice a1 n1 k1, .slice a2 n2 k2] w1 fun e w' => e = .returned (.int .i64 x) ∧ Below w1.heap.size w1 w')
    (g2 : ∀ w1, Below w.heap.size w w1 → Calls Try.prog 25 #[.slice a2 n2 k2, .slice a3 n3 k3] w1 fun e w' => e = .returned (.int .i64 y) ∧ Below w1.heap.size w1 w')
    (g3 : ∀ w1, Below w.heap.size w w1 → Calls Try.prog 25 #[.slice a1 n1 k1, .slice a3 n3 k3] w1 fun e w' => e = .returned (.int .i64 z) ∧ Below w1.heap.size w1 w')
    (g4 : ∀ w1, Below w.heap.size w w1 → Calls Try.prog 25 #[.slice a2 n2 k2, .slice a1 n1 k1] w1 fun e w' => e = .returned (.int .i64 (-x)) ∧ Below w1.heap.size w1 w')
    (g5 : ∀ w1, Below w.heap.size w w1 → Calls Try.prog 38 #[.slice a1 n1 k1, .slice a2 n2 k2] w1 fun e w' => e = .returned (.bool d) ∧ Below w1.heap.size w1 w')
    (g6 : ∀ w1, Below w.heap.size w w1 → ∀ i, i < n1 → Calls Try.prog 25 #[.slice a1 i k1, .slice a1 n1 k1] w1 fun e w' => e = .returned (.int .i64 (-1)) ∧ Below w1.heap.size w1 w')
    (c1 : x ≤ 0) (c2 : y ≤ 0) (c3 : ¬ z > 0) (c4 : (z == 0) = true) (c5 : ¬ x + y < 0) :
    Calls Try.prog 6 #[.slice a1 n1 k1, .slice a2 n2 k2, .slice a3 n3 k3] w fun e w' => e = .returned (.bool true) ∧ Below w.heap.size w w' := by
  have HA := Lib.hid awake
  have G1 := Lib.hid g1
  have G2 := Lib.hid g2
  have G3 := Lib.hid g3
  have G4 := Lib.hid g4
  have G5 := Lib.hid g5
  have G6 := Lib.hid g6
  have HS := Lib.hid (fun i (hi : i ≤ n1) => slice_to a1 n1 k1 i hi hr)
  have F1 := Lib.hid (few_any a1 n1 k1)
  have F2 := Lib.hid (few_any a2 n2 k2)
  have F3 := Lib.hid (few_any a3 n3 k3)
  rw [decide_eq_true l1] at F1
  rw [decide_eq_true l2] at F2
  rw [decide_eq_true l3] at F3
  obtain ⟨m1, m2⟩ := neg_small hx1 hx2
  obtain ⟨s1, s2⟩ := add_small hx1 hx2 hy1 hy2
  have x1 : ¬ x < -1 := by omega
  have x2 : ¬ x > 1 := by omega
  have T0 := Lib.hid (Below.refl w.heap.size w)
  clear g1 g2 g3 g4 g5 g6 l2 l3 hx1 hx2 hy1 hy2 hr
  go_enter Try.func6, Try.ntmps6
  go_wp2_with first
    | (go_at_call 10; with_reducible refine (F1.out _).mono ?_; rintro e w' ⟨rfl, rfl⟩)
    | (go_at_call 10; with_reducible refine (F2.out _).mono ?_; rintro e w' ⟨rfl, rfl⟩)
    | (go_at_call 10; with_reducible refine (F3.out _).mono ?_; rintro e w' ⟨rfl, rfl⟩)
        | (go_at_call 25; with_reducible refine (G1.out _ T0.out).mono ?_; rintro e w1 ⟨rfl, hb⟩; have T1 := Lib.hid (T0.out.trans (bel_le hb T0.out.size)); clear hb)
        | (go_at_call 25; with_reducible refine (G2.out _ T1.out).mono ?_; rintro e w1 ⟨rfl, hb⟩; have T2 := Lib.hid (T1.out.trans (bel_le hb T1.out.size)); clear hb)
        | (go_at_call 25; with_reducible refine (G3.out _ T2.out).mono ?_; rintro e w1 ⟨rfl, hb⟩; have T3 := Lib.hid (T2.out.trans (bel_le hb T2.out.size)); clear hb)
        | (go_at_call 25; with_reducible refine (G4.out _ T3.out).mono ?_; rintro e w1 ⟨rfl, hb⟩; have T4 := Lib.hid (T3.out.trans (bel_le hb T3.out.size)); clear hb)
        | (go_at_call 38; with_reducible refine (G5.out _ T4.out).mono ?_; rintro e w1 ⟨rfl, hb⟩; have T5 := Lib.hid (T4.out.trans (bel_le hb T4.out.size)); clear hb)
  clear m1 m2 s1 s2 x1 x2 hd
  go_loopw [80] (fun i wr => ∃ k : Nat, k ≤ n1 ∧ i = .int .i64 k ∧ Below w.heap.size w wr) (fun i _ => n1 - (intOf i).toNat)
  case atStart => exact ⟨0, Nat.zero_le _, rfl, T5.out⟩
  case round =>
    obtain ⟨k, hk, rfl, hB⟩ := hrel
    have T6 := Lib.hid hB
    clear hB
    by_cases hlt : k < n1
    · have hs := HS.out k hk
      have G7 := Lib.hid (fun w1 hb => G6.out w1 hb k hlt)
      go_wp2_with (go_at_call 25; with_reducible refine (G7.out _ T6.out).mono ?_; rintro e w1 ⟨rfl, hb⟩; have T7 := Lib.hid (T6.out.trans (bel_le hb T6.out.size)); clear hb)
      go_roundw
      case rel => exact ⟨k + 1, by omega, by go_num, T7.out⟩
      case measure => simp [intOf]; omega
    · obtain rfl : k = n1 := by omega
      go_wp2_with (go_at_call 11; refine (HA.out _).mono ?_; rintro e w1 ⟨rfl, hb⟩; have T7 := Lib.hid (T6.out.trans (bel_le hb T6.out.size)); clear hb)
      go_ret
      exact ⟨rfl, T7.out⟩
theorem take_less (a1 : Option Addr) (n1 k1 b1 o1 : Nat) (A : List V) (w : World) (h : VIn w a1 n1 k1 b1 o1 A) (hn : n1 ≤ 10) (i : Nat) (hi : i < n1) :
    Calls Try.prog 25 #[.slice a1 i k1, .slice a1 n1 k1] w fun e w' => e = .returned (.int .i64 (-1)) ∧ Below w.heap.size w w' := by
  have := compare_in a1 a1 i n1 k1 k1 b1 o1 b1 o1 (A.take i) A w (h.take (by omega)) h (by omega) (by omega)
  rw [cmpL_take A i (by rw [h.size]; exact hi)] at this
  exact this
theorem simplexOrders_walk {w : World} {u v s : Value} {A B C : List V} (h1 : VTop w u A) (h2 : VTop w v B) (h3 : VTop w s C) :
    Calls Try.prog 6 #[u, v, s] w fun e w' => e = .returned (.bool true) ∧ Below w.heap.size w w' := by
  obtain ⟨a1, n1, k1, b1, o1, rfl, i1⟩ := h1
  obtain ⟨a2, n2, k2, b2, o2, rfl, i2⟩ := h2
  obtain ⟨a3, n3, k3, b3, o3, rfl, i3⟩ := h3
  by_cases l1 : n1 ≤ 10
  · by_cases l2 : n2 ≤ 10
    · by_cases l3 : n3 ≤ 10
      · have rx := cmpL_range A B
        have ry := cmpL_range B C
        have hd : (cmpL A B == 0) = decide (A = B) := by
          by_cases e : A = B
          · rw [decide_eq_true e, e, cmpL_same]; rfl
          · rw [decide_eq_false e]
            have : cmpL A B ≠ 0 := fun h => e (cmpL_zero.1 h)
            simpa using this
        have g1 := fun (w1 : World) (hb : Below w.heap.size w w1) => compare_in a1 a2 n1 n2 k1 k2 b1 o1 b2 o2 A B w1 (i1.below hb) (i2.below hb) (by omega) (by omega)
        have g2 := fun (w1 : World) (hb : Below w.heap.size w w1) => compare_in a2 a3 n2 n3 k2 k3 b2 o2 b3 o3 B C w1 (i2.below hb) (i3.below hb) (by omega) (by omega)
        have g3 := fun (w1 : World) (hb : Below w.heap.size w w1) => compare_in a1 a3 n1 n3 k1 k3 b1 o1 b3 o3 A C w1 (i1.below hb) (i3.below hb) (by omega) (by omega)
        have g4 := fun (w1 : World) (hb : Below w.heap.size w w1) => compare_in a2 a1 n2 n1 k2 k1 b2 o2 b1 o1 B A w1 (i2.below hb) (i1.below hb) (by omega) (by omega)
        rw [cmpL_anti A B] at g4
        have g5 := fun (w1 : World) (hb : Below w.heap.size w w1) => equal_in a1 a2 n1 n2 k1 k2 b1 o1 b2 o2 A B w1 (i1.below hb) (i2.below hb) (by omega) (by omega)
        have g6 := fun (w1 : World) (hb : Below w.heap.size w w1) i (hi : i < n1) => take_less a1 n1 k1 b1 o1 A w1 (i1.below hb) l1 i hi
        have hlaw := order_law A B C
        by_cases c1 : cmpL A B ≤ 0
        · by_cases c2 : cmpL B C ≤ 0
          · have c3 : ¬ cmpL A C > 0 := fun h => hlaw ⟨c1, c2, .inl h⟩
            by_cases c4 : cmpL A C = 0
            · exact near4 a1 a2 a3 _ _ _ k1 k2 k3 w l1 l2 l3 i1.room _ _ _ _ rx.1 rx.2 ry.1 ry.2 hd g1 g2 g3 g4 g5 g6 c1 c2 c3 (by simpa using c4) (fun h => hlaw ⟨c1, c2, .inr ⟨c4, h⟩⟩)
            · exact near3 a1 a2 a3 _ _ _ k1 k2 k3 w l1 l2 l3 i1.room _ _ _ _ rx.1 rx.2 ry.1 ry.2 hd g1 g2 g3 g4 g5 g6 c1 c2 c3 (by simpa using c4)
          · exact near2 a1 a2 a3 _ _ _ k1 k2 k3 w l1 l2 l3 i1.room _ _ _ _ rx.1 rx.2 ry.1 ry.2 hd g1 g2 g3 g4 g5 g6 c1 c2
        · exact near1 a1 a2 a3 _ _ _ k1 k2 k3 w l1 l2 l3 i1.room _ _ _ _ rx.1 rx.2 ry.1 ry.2 hd g1 g2 g3 g4 g5 g6 c1
      · exact far3 a1 a2 a3 _ _ _ k1 k2 k3 l1 l2 l3 w
    · exact far2 a1 a2 a3 _ _ n3 k1 k2 k3 l1 l2 w
  · exact far1 a1 a2 a3 _ n2 n3 k1 k2 k3 l1 w
end Go.Proofs.Ytjggeombkbianaa.Sx
