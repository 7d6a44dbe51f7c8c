/-
  simplex.Compare: the order of vertices and of their lists.
-/
import Derived.Test.YtjggeombkbianaaProg
import Derived.Test.YtjggeombkbianaaEvSxMath
import Derived.Test.YtjggeombkbianaaEvOwn
import Derived.Test.YtjggeombkbianaaEvLaw
import Derived.Test.YtjggeombkbianaaEvRows
import Derived.WalkKit
import Derived.IntWalk
import Derived.Lib.Hide
import Derived.StillTailTactics
import Derived.Deep.QuietTactic
import Derived.BigQuiet
namespace Go.Proofs.Ytjggeombkbianaa.Sx
open Go Go.RowKit Go.Law Go.Sx

theorem ret_int {k : IntKind} {x y : Int} (h : x = y) : Ending.returned (.int k x) = .returned (.int k y) := by rw [h]
theorem ret_bool {x y : Bool} (h : x = y) : Ending.returned (.bool x) = .returned (.bool y) := by rw [h]
theorem below_alloc (w : World) (o : Obj) : Below w.heap.size w (w.alloc o) := (Below.refl _ _).alloc (Nat.le_refl _) o
theorem bel_le {B : Nat} {w w' : World} (h : Below w.heap.size w w') (hB : B ≤ w.heap.size) : Below B w w' := h.mono hB
/-- A vertex of a list. -/
def vx (l : List V) (k : Nat) : V := l.getD k (0, 0)
theorem vx_get {l : List V} {k : Nat} (h : k < l.length) : vx l k = l[k] := by unfold vx; rw [List.getD_eq_getElem?_getD, List.getElem?_eq_getElem h]; rfl
def VsAt (W : World) (b off len : Nat) (l : List V) : Prop := ∀ k, k < len → W.cell? ⟨b, off + k * 2, none⟩ = some (.int .i64 (vx l k).1) ∧ W.cell? ⟨b, off + k * 2 + 1, none⟩ = some (.int .i64 (vx l k).2)
/-- A list of vertices that can be read. -/
structure VIn (W : World) (a : Option Addr) (len cap b off : Nat) (l : List V) : Prop where
  size : l.length = len
  head : 0 < len → a = some ⟨b, off, none⟩
  old : 0 < len → b < W.heap.size
  cells : VsAt W b off len l
  room : len ≤ cap
  top : cap ≤ maxLen
theorem VIn.below {A B : World} (h : Below A.heap.size A B) {a : Option Addr} {len cap b off : Nat} {l : List V} (k : VIn A a len cap b off l) : VIn B a len cap b off l :=
  ⟨k.size, k.head, fun h0 => Nat.lt_of_lt_of_le (k.old h0) h.size, fun i hi => ⟨(h.cell (p := ⟨b, off + i * 2, none⟩) (k.old (by omega))).trans (k.cells i hi).1, (h.cell (p := ⟨b, off + i * 2 + 1, none⟩) (k.old (by omega))).trans (k.cells i hi).2⟩, k.room, k.top⟩
def VTop (W : World) (v : Value) (l : List V) : Prop := ∃ a len cap b off, v = .slice a len cap ∧ VIn W a len cap b off l
theorem VTop.below {A B : World} (h : Below A.heap.size A B) {v : Value} {l : List V} : VTop A v l → VTop B v l
  | ⟨a, len, cap, b, off, e, k⟩ => ⟨a, len, cap, b, off, e, k.below h⟩

theorem nan_ok (x : Int) (w : World) : Calls Try.prog 87 #[.int .i64 x] w fun e w' => e = .returned (.bool false) ∧ w = w' := by
  go_enter Try.func87, Try.ntmps87
  go_wp2
  go_ret
  exact ⟨rfl, rfl⟩
theorem cmp_ok (x y : Int) (w : World) : Calls Try.prog 76 #[.int .i64 x, .int .i64 y] w fun e w' => e = .returned (.int .i64 (cmpI x y)) ∧ w = w' := by
  unfold cmpI
  by_cases h1 : x < y
  · rw [if_pos h1]
    go_enter Try.func76, Try.ntmps76
    go_wp2_with (go_at_call 87; refine (nan_ok _ _).mono ?_; rintro e w' ⟨rfl, rfl⟩)
    go_ret
    exact ⟨rfl, rfl⟩
  · rw [if_neg h1]
    by_cases h2 : y < x
    · rw [if_pos h2]
      go_enter Try.func76, Try.ntmps76
      go_wp2_with (go_at_call 87; refine (nan_ok _ _).mono ?_; rintro e w' ⟨rfl, rfl⟩)
      go_ret
      exact ⟨rfl, rfl⟩
    · rw [if_neg h2]
      go_enter Try.func76, Try.ntmps76
      go_wp2_with (go_at_call 87; refine (nan_ok _ _).mono ?_; rintro e w' ⟨rfl, rfl⟩)
      go_ret
      exact ⟨rfl, rfl⟩
theorem or_two (B : Nat) (x y : Int) (w : World) (c0 : w.cell? ⟨B, 0, none⟩ = some (.int .i64 x)) (c1 : w.cell? ⟨B, 1, none⟩ = some (.int .i64 y)) :
    Calls Try.prog 75 #[.slice (some ⟨B, 0, none⟩) 2 2] w fun e w' => e = .returned (.int .i64 (if x ≠ 0 then x else y)) ∧ w = w' := by
  have C0 := Lib.hid c0
  have C1 := Lib.hid c1
  go_enter Try.func75, Try.ntmps75
  go_wp2
  go_loop [8] (fun i => (i = .int .i64 0) ∨ (i = .int .i64 1 ∧ x = 0) ∨ (i = .int .i64 2 ∧ x = 0 ∧ y = 0)) (fun i => 2 - (intOf i).toNat)
  case atStart => exact .inl rfl
  case round =>
    rcases hrel with rfl | ⟨rfl, hx⟩ | ⟨rfl, hx, hy⟩
    · by_cases hx : x = 0
      · have hb : (x != 0) = false := by simpa using hx
        have HX := Lib.hid hx
        clear hx
        go_wp2
        go_round
        case rel => exact .inr (.inl ⟨by go_num, HX.out⟩)
        case measure => simp [intOf]
      · have hb : (x != 0) = true := by simpa using hx
        have HX := Lib.hid hx
        clear hx
        go_wp2
        go_ret
        exact ⟨ret_int (by first | rfl | simp [HX.out]), rfl⟩
    · have HX := Lib.hid hx
      clear hx
      by_cases hy : y = 0
      · have hb : (y != 0) = false := by simpa using hy
        have HY := Lib.hid hy
        clear hy
        go_wp2
        go_round
        case rel => exact .inr (.inr ⟨by go_num, HX.out, HY.out⟩)
        case measure => simp [intOf]
      · have hb : (y != 0) = true := by simpa using hy
        clear hy
        go_wp2
        go_ret
        exact ⟨ret_int (by first | rfl | simp [HX.out]), rfl⟩
    · have HX := Lib.hid hx
      have HY := Lib.hid hy
      clear hx hy
      go_wp2
      go_ret
      exact ⟨ret_int (by first | rfl | simp [HY.out]), rfl⟩
/-- A block with a vertex. -/
@[reducible] def Row2 (w : World) (B : Nat) (x y : Int) : Prop := w.cell? ⟨B, 0, none⟩ = some (.int .i64 x) ∧ w.cell? ⟨B, 1, none⟩ = some (.int .i64 y)
theorem row2_new (w : World) (x y : Int) : Row2 (w.alloc (.cells #[.int .i64 x, .int .i64 y] 56)) w.heap.size x y := by
  constructor <;> (rw [World.cell?_alloc_at _ _ _ _ rfl]; rfl)
theorem row2_below {w w' : World} {B : Nat} {x y : Int} (h : Row2 w B x y) (hb : Below w.heap.size w w') : Row2 w' B x y :=
  ⟨(hb.cell (cell_lt h.1)).trans h.1, (hb.cell (cell_lt h.1)).trans h.2⟩
theorem row2_two (w : World) (x y u v : Int) : Row2 ((w.alloc (.cells #[.int .i64 x, .int .i64 y] 56)).alloc (.cells #[.int .i64 u, .int .i64 v] 56)) w.heap.size x y ∧ Row2 ((w.alloc (.cells #[.int .i64 x, .int .i64 y] 56)).alloc (.cells #[.int .i64 u, .int .i64 v] 56)) (w.heap.size + 1) u v :=
  ⟨row2_below (row2_new w x y) (below_alloc _ _), by have := row2_new (w.alloc (.cells #[.int .i64 x, .int .i64 y] 56)) u v; rw [World.size_alloc] at this; exact this⟩
set_option maxRecDepth 100000 in
set_option maxHeartbeats 1000000 in
theorem vcmp (a b : V) (w : World) : Calls Try.prog 52 #[.agg #[.int .i64 a.1, .int .i64 a.2], .agg #[.int .i64 b.1, .int .i64 b.2]] w fun e w' => e = .returned (.int .i64 (cmpV a b)) ∧ Below w.heap.size w w' := by
  obtain ⟨x, y⟩ := a
  obtain ⟨u, v⟩ := b
  have HV : Hid (cmpV (x, y) (u, v) = if cmpI x u ≠ 0 then cmpI x u else cmpI y v) := Lib.hid rfl
  have H1 := Lib.hid (cmp_ok x u)
  have H2 := Lib.hid (cmp_ok y v)
  generalize cmpV (x, y) (u, v) = r at *
  generalize cmpI x u = p at *
  generalize cmpI y v = q at *
  have HO : Hid (∀ (B : Nat) (W : World), W.cell? ⟨B, 0, none⟩ = some (.int .i64 p) → W.cell? ⟨B, 1, none⟩ = some (.int .i64 q) → Calls Try.prog 75 #[.slice (some ⟨B, 0, none⟩) 2 2] W fun e w' => e = .returned (.int .i64 r) ∧ W = w') := Lib.hid fun B W c0 c1 => by
    rw [HV.out]; exact or_two B p q W c0 c1
  have T0 := Lib.hid ((below_alloc w (.cells #[.int .i64 x, .int .i64 y] 56)).alloc (by simp) (.cells #[.int .i64 u, .int .i64 v] 56))
  go_enter Try.func52, Try.ntmps52
  go_wp2
  obtain ⟨⟨c0, c1⟩, d0, d1⟩ := row2_two w x y u v
  generalize hW2 : World.alloc (World.alloc w _) _ = W2 at *
  refine wp_region_still_tail 10 (by kernel_rfl) (by kernel_rfl) ?_
  change wpStill _ _ W2.drew _ _ _
  simp only [List.take_succ_cons, List.take_zero, List.drop_succ_cons, List.drop_zero]
  still_step
  still_step
  still_step
  still_step
  still_call ((H1.out _).mono fun _ _ h => ⟨h.1, h.2.symm⟩)
  still_step
  still_step
  still_step
  still_step
  still_call ((H2.out _).mono fun _ _ h => ⟨h.1, h.2.symm⟩)
  refine wpStill_nil ?_
  change wpList _ _ _ _ _ W2.drew
  go_wp2_with (go_at_call 75; refine (HO.out _ _ (by show (World.alloc W2 _).cell? _ = _; rw [World.cell?_alloc_at _ _ _ _ rfl]; rfl) (by show (World.alloc W2 _).cell? _ = _; rw [World.cell?_alloc_at _ _ _ _ rfl]; rfl)).mono ?_; rintro e w' ⟨rfl, rfl⟩)
  go_ret
  exact ⟨rfl, (T0.out.alloc T0.out.size _).drew⟩
end Go.Proofs.Ytjggeombkbianaa.Sx
