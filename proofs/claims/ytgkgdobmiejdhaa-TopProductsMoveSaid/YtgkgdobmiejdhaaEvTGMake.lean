/-
  Graphs with all edges, and with none.
-/
import Derived.Test.YtgkgdobmiejdhaaEvTGCmp
import Derived.Test.YtgkgdobmiejdhaaEvTSeat
import Derived.Test.YtgkgdobmiejdhaaEvVal
namespace Go.Proofs.Ytgkgdobmiejdhaa.Graph
open Go Go.RowKit Go.Graph Go.Law
open Go.Proofs.Ytgkgdobmiejdhaa.Col

/-- A graph and an error, as two functions give them. -/
def pairV (n r0 r1 r2 r3 r4 e : Int) : Value := .tuple #[.agg #[.int .i64 n, .int .i64 r0, .int .i64 r1, .int .i64 r2, .int .i64 r3, .int .i64 r4], .int .i64 e]
noncomputable def run (f : FuncId) (n : Int) : Option Value := Go.Ev.outV ((Go.Ev.F.evRec (Go.Proofs.Ytgkgdobmiejdhaa.Ev.fast fun _ => none) 50).call f [.int .i64 n] (Go.Ev.tabHp []))
theorem closed {f : FuncId} {n : Int} {u : Value} (e : run f n = some u) (w : World) :
    Calls Try.prog f #[.int .i64 n] w fun e w' => e = .returned u ∧ Below w.heap.size w w' :=
  Go.Ev.call_plain (Go.Proofs.Ytgkgdobmiejdhaa.Ev.cfg_ok (pr := fun _ => none) fun _ _ _ f g h => (by cases h)) Go.Proofs.Ytgkgdobmiejdhaa.Ev.glob_ok (args := [.int .i64 n]) (args' := [.int .i64 n]) (.cons (.int _ _) .nil) (by rw [← Go.Proofs.Ytgkgdobmiejdhaa.Ev.fast_eq]; exact e) (Go.Proofs.Ytgkgdobmiejdhaa.Ev.held w)
theorem run14_1 : run 11 1 = some (pairV 1 1 0 0 0 0 0) := by kernel_rfl
theorem run14_2 : run 11 2 = some (pairV 2 1 2 0 0 0 0) := by kernel_rfl
theorem run14_3 : run 11 3 = some (pairV 3 1 2 4 0 0 0) := by kernel_rfl
theorem run14_4 : run 11 4 = some (pairV 4 1 2 4 8 0 0) := by kernel_rfl
theorem run14_5 : run 11 5 = some (pairV 5 1 2 4 8 16 0) := by kernel_rfl
set_option maxRecDepth 100000 in
theorem all_bad (n : Int) (h : n < 1 ∨ 5 < n) (w : World) : Calls Try.prog 26 #[.int .i64 n] w fun e w' => e = .returned (.tuple #[.int .i64 0, .int .i64 1]) ∧ w = w' := by
  go_enter Try.func26, Try.ntmps26
  go_wp2_with (go_at_call 31; refine (checkN_bad _ h _).mono ?_; rintro e w' ⟨rfl, rfl⟩)
  go_ret2
  exact ⟨rfl, rfl⟩
set_option maxRecDepth 100000 in
theorem bad12 (n : Int) (h : n < 1 ∨ 5 < n) (w : World) : Calls Try.prog 17 #[.int .i64 n] w fun e w' => e = .returned (pairV 0 0 0 0 0 0 2) ∧ Below w.heap.size w w' := by
  have HB := Lib.hid (below_alloc w)
  go_enter Try.func17, Try.ntmps17
  go_wp2_with (go_at_call 26; refine (all_bad _ h _).mono ?_; rintro e w' ⟨rfl, rfl⟩)
  (try simp only [Exit.inBlock, Exit.then])
  refine bodyPost_ret (v := pairV 0 0 0 0 0 0 2) (by simp [results, Try.results17, go_sem, pairV]) rfl ⟨rfl, (HB.out _).alloc (by rw [size_alloc]; omega) _⟩
set_option maxRecDepth 100000 in
theorem bad14 (n : Int) (h : n < 1 ∨ 5 < n) (w : World) : Calls Try.prog 11 #[.int .i64 n] w fun e w' => e = .returned (pairV 0 0 0 0 0 0 2) ∧ Below w.heap.size w w' := by
  have HB := Lib.hid (below_alloc w)
  go_enter Try.func11, Try.ntmps11
  go_wp2_with (go_at_call 26; refine (all_bad _ h _).mono ?_; rintro e w' ⟨rfl, rfl⟩)
  (try simp only [Exit.inBlock, Exit.then])
  refine bodyPost_ret (v := pairV 0 0 0 0 0 0 2) (by simp [results, Try.results11, go_sem, pairV]) rfl ⟨rfl, HB.out _⟩
end Go.Proofs.Ytgkgdobmiejdhaa.Graph
