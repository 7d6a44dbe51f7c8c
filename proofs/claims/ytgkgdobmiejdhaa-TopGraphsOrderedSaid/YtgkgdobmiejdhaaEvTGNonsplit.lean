/-
  Graphs in which any two processes hear a common one.
-/
import Derived.Test.YtgkgdobmiejdhaaEvTGKernel
namespace Go.Proofs.Ytgkgdobmiejdhaa.Graph
open Go Go.RowKit Go.Graph Go.Law
open Go.Proofs.Ytgkgdobmiejdhaa.Col

theorem and_yes (x y : Nat) (hx : x < 32) (hy : y < 32) (h : x &&& y = 0) : (bits BinOp.and IntKind.i64 (x : Int) (y : Int) == 0) = true := by rw [and_nat x y hx hy, h]; rfl
theorem and_no (x y : Nat) (hx : x < 32) (hy : y < 32) (h : x &&& y ≠ 0) : (bits BinOp.and IntKind.i64 (x : Int) (y : Int) == 0) = false := by rw [and_nat x y hx hy]; simpa using h
theorem nsp_no {r : Nat → Nat} {n p q : Nat} (hp : p < n) (hq : q < p) (h : r p &&& r q = 0) : nsp r n = false := by
  unfold nsp; rw [decide_eq_false_iff_not]; exact fun hn => hn p hp q hq h
theorem nsp_yes {r : Nat → Nat} {n : Nat} (h : NoSplit r n) : nsp r n = true := by unfold nsp; simpa using h
theorem ret_bi {a b : Bool} {c : Int} (h : a = b) : Ending.returned (.tuple #[.bool a, .int .i64 c]) = .returned (.tuple #[.bool b, .int .i64 c]) := by rw [h]
end Go.Proofs.Ytgkgdobmiejdhaa.Graph
