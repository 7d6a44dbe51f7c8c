/-
  GraphChecks answers true.
-/
import Derived.Test.YtlineonmpbdkgaaDoorEvRoCmp
import Derived.Test.YtlineonmpbdkgaaDoorEvRoSeat
import Derived.Test.YtlineonmpbdkgaaDoorEvLaw
import Derived.Deep.RegionHeld3
namespace Go.Proofs.YtlineonmpbdkgaaDoor.Graph
open Go Go.RowKit Go.Graph Go.Law
open Go.Proofs.YtlineonmpbdkgaaDoor.Col

def pairV (n r0 r1 r2 r3 r4 e : Int) : Value := .tuple #[.agg #[.int .i64 n, .int .i64 r0, .int .i64 r1, .int .i64 r2, .int .i64 r3, .int .i64 r4], .int .i64 e]
end Go.Proofs.YtlineonmpbdkgaaDoor.Graph
namespace Go.Proofs.YtlineonmpbdkgaaDoor.Graph
open Go Go.RowKit Go.Graph Go.Law
open Go.Proofs.YtlineonmpbdkgaaDoor.Col

theorem checks (n r0 r1 r2 r3 r4 : Int) : ∃ c : Int, (∀ w : World, Calls Tryd.prog 34 #[.agg #[.int .i64 n, .int .i64 r0, .int .i64 r1, .int .i64 r2, .int .i64 r3, .int .i64 r4]] w fun e w' => e = .returned (.int .i64 c) ∧ Below w.heap.size w w') ∧ (∀ w : World, Calls Tryd.prog 36 #[.agg #[.int .i64 n, .int .i64 r0, .int .i64 r1, .int .i64 r2, .int .i64 r3, .int .i64 r4]] w fun e w' => e = .returned (.int .i64 c) ∧ Below w.heap.size w w') := by
  by_cases h : n < 1 ∨ 5 < n
  · exact ⟨2, check_bad n h r0 r1 r2 r3 r4, rcheck_bad n h r0 r1 r2 r3 r4⟩
  · obtain ⟨k, rfl⟩ := Int.eq_ofNat_of_zero_le (show 0 ≤ n by omega)
    exact ⟨_, check_any k (by omega) (by omega) r0 r1 r2 r3 r4, rcheck_any k (by omega) (by omega) r0 r1 r2 r3 r4⟩
/-- A graph that lies in block B. -/
@[reducible] def Row6 (w : World) (B : Nat) (n r0 r1 r2 r3 r4 : Int) : Prop := (w.cell? ⟨B, 0, none⟩ = some (.int .i64 n) ∧ w.cell? ⟨B, 1, none⟩ = some (.int .i64 r0) ∧ w.cell? ⟨B, 2, none⟩ = some (.int .i64 r1) ∧ w.cell? ⟨B, 3, none⟩ = some (.int .i64 r2) ∧ w.cell? ⟨B, 4, none⟩ = some (.int .i64 r3) ∧ w.cell? ⟨B, 5, none⟩ = some (.int .i64 r4))
theorem row_new (w : World) (n r0 r1 r2 r3 r4 : Int) : Row6 (w.alloc (.cells #[.int .i64 n, .int .i64 r0, .int .i64 r1, .int .i64 r2, .int .i64 r3, .int .i64 r4] 24)) w.heap.size n r0 r1 r2 r3 r4 := by
  refine ⟨?_, ?_, ?_, ?_, ?_, ?_⟩ <;> (rw [World.cell?_alloc_at _ _ _ _ rfl]; rfl)
theorem row_below {w w' : World} {B : Nat} {n r0 r1 r2 r3 r4 : Int} (h : Row6 w B n r0 r1 r2 r3 r4) (hb : Below w.heap.size w w') : Row6 w' B n r0 r1 r2 r3 r4 :=
  have hl : B < w.heap.size := cell_lt h.1
  ⟨(hb.cell hl).trans h.1, (hb.cell hl).trans h.2.1, (hb.cell hl).trans h.2.2.1, (hb.cell hl).trans h.2.2.2.1, (hb.cell hl).trans h.2.2.2.2.1, (hb.cell hl).trans h.2.2.2.2.2⟩
theorem row_alloc {w : World} {B : Nat} {n r0 r1 r2 r3 r4 : Int} (h : Row6 w B n r0 r1 r2 r3 r4) (o : Obj) : Row6 (w.alloc o) B n r0 r1 r2 r3 r4 := row_below h ((Below.refl _ _).alloc (Nat.le_refl _) o)
theorem eq_self (x0 x1 x2 x3 x4 : Int) (w : World) : (Op.equalIn 9999 22 (.agg #[.int .i64 x0, .int .i64 x1, .int .i64 x2, .int .i64 x3, .int .i64 x4]) (.agg #[.int .i64 x0, .int .i64 x1, .int .i64 x2, .int .i64 x3, .int .i64 x4])).run Tryd.prog w = .ok true w := by
  have := arr_eq x0 x1 x2 x3 x4 x0 x1 x2 x3 x4 w
  simpa using this
theorem bel_lg {B B' : Nat} {w w' : World} (h : Below B w w') (hb : B' ≤ B) : Below B' w w' := ⟨h.os, h.tape, h.output, h.size, fun k hk => h.block k (by omega)⟩
theorem keepSix {w w' : World} {A B X Y U V : Nat} {n r0 r1 r2 r3 r4 m s0 s1 s2 s3 s4 x x0 x1 x2 x3 x4 u u0 u1 u2 u3 u4 : Int} (h : Row6 w A n r0 r1 r2 r3 r4 ∧ Row6 w B m s0 s1 s2 s3 s4 ∧ Row6 w X x x0 x1 x2 x3 x4 ∧ Row6 w Y x x0 x1 x2 x3 x4 ∧ Row6 w U u u0 u1 u2 u3 u4 ∧ Row6 w V u u0 u1 u2 u3 u4) (hb : Below w.heap.size w w') : Row6 w' A n r0 r1 r2 r3 r4 ∧ Row6 w' B m s0 s1 s2 s3 s4 ∧ Row6 w' X x x0 x1 x2 x3 x4 ∧ Row6 w' Y x x0 x1 x2 x3 x4 ∧ Row6 w' U u u0 u1 u2 u3 u4 ∧ Row6 w' V u u0 u1 u2 u3 u4 :=
  ⟨row_below h.1 hb, row_below h.2.1 hb, row_below h.2.2.1 hb, row_below h.2.2.2.1 hb, row_below h.2.2.2.2.1 hb, row_below h.2.2.2.2.2 hb⟩
end Go.Proofs.YtlineonmpbdkgaaDoor.Graph
