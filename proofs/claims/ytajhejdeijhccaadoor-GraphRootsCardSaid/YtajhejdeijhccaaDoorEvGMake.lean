/-
  Graphs with all edges, and with none.
-/
import Derived.Test.YtajhejdeijhccaaDoorEvGCmp
import Derived.Test.YtajhejdeijhccaaDoorEvGSeat
import Derived.Test.YtajhejdeijhccaaDoorEvVal
namespace Go.Proofs.YtajhejdeijhccaaDoor.Graph
open Go Go.RowKit Go.Graph Go.Law
open Go.Proofs.YtajhejdeijhccaaDoor.Col

/-- A graph and an error, as two functions give them. -/
def pairV (n r0 r1 r2 r3 r4 e : Int) : Value := .tuple #[.agg #[.int .i64 n, .int .i64 r0, .int .i64 r1, .int .i64 r2, .int .i64 r3, .int .i64 r4], .int .i64 e]
noncomputable def run (f : FuncId) (n : Int) : Option Value := Go.Ev.outV ((Go.Ev.F.evRec (Go.Proofs.YtajhejdeijhccaaDoor.Ev.fast fun _ => none) 50).call f [.int .i64 n] (Go.Ev.tabHp []))
theorem closed {f : FuncId} {n : Int} {u : Value} (e : run f n = some u) (w : World) :
    Calls Tryd.prog f #[.int .i64 n] w fun e w' => e = .returned u ∧ Below w.heap.size w w' :=
  Go.Ev.call_plain (Go.Proofs.YtajhejdeijhccaaDoor.Ev.cfg_ok (pr := fun _ => none) fun _ _ _ f g h => (by cases h)) Go.Proofs.YtajhejdeijhccaaDoor.Ev.glob_ok (args := [.int .i64 n]) (args' := [.int .i64 n]) (.cons (.int _ _) .nil) (by rw [← Go.Proofs.YtajhejdeijhccaaDoor.Ev.fast_eq]; exact e) (Go.Proofs.YtajhejdeijhccaaDoor.Ev.held w)
theorem run12_1 : run 12 1 = some (pairV 1 1 0 0 0 0 0) := by kernel_rfl
theorem run12_2 : run 12 2 = some (pairV 2 3 3 0 0 0 0) := by kernel_rfl
theorem run12_3 : run 12 3 = some (pairV 3 7 7 7 0 0 0) := by kernel_rfl
theorem run12_4 : run 12 4 = some (pairV 4 15 15 15 15 0 0) := by kernel_rfl
theorem run12_5 : run 12 5 = some (pairV 5 31 31 31 31 31 0) := by kernel_rfl
theorem run13_1 : run 13 1 = some (pairV 1 1 0 0 0 0 0) := by kernel_rfl
theorem run13_2 : run 13 2 = some (pairV 2 3 3 0 0 0 0) := by kernel_rfl
theorem run13_3 : run 13 3 = some (pairV 3 7 7 7 0 0 0) := by kernel_rfl
theorem run13_4 : run 13 4 = some (pairV 4 15 15 15 15 0 0) := by kernel_rfl
theorem run13_5 : run 13 5 = some (pairV 5 31 31 31 31 31 0) := by kernel_rfl
theorem run14_1 : run 14 1 = some (pairV 1 1 0 0 0 0 0) := by kernel_rfl
theorem run14_2 : run 14 2 = some (pairV 2 1 2 0 0 0 0) := by kernel_rfl
theorem run14_3 : run 14 3 = some (pairV 3 1 2 4 0 0 0) := by kernel_rfl
theorem run14_4 : run 14 4 = some (pairV 4 1 2 4 8 0 0) := by kernel_rfl
theorem run14_5 : run 14 5 = some (pairV 5 1 2 4 8 16 0) := by kernel_rfl
theorem run15_1 : run 15 1 = some (pairV 1 1 0 0 0 0 0) := by kernel_rfl
theorem run15_2 : run 15 2 = some (pairV 2 1 2 0 0 0 0) := by kernel_rfl
theorem run15_3 : run 15 3 = some (pairV 3 1 2 4 0 0 0) := by kernel_rfl
theorem run15_4 : run 15 4 = some (pairV 4 1 2 4 8 0 0) := by kernel_rfl
theorem run15_5 : run 15 5 = some (pairV 5 1 2 4 8 16 0) := by kernel_rfl
set_option maxRecDepth 100000 in
theorem all_bad (n : Int) (h : n < 1 ∨ 5 < n) (w : World) : Calls Tryd.prog 52 #[.int .i64 n] w fun e w' => e = .returned (.tuple #[.int .i64 0, .int .i64 1]) ∧ w = w' := by
  go_enter Tryd.func52, Tryd.ntmps52
  go_wp2_with (go_at_call 80; refine (checkN_bad _ h _).mono ?_; rintro e w' ⟨rfl, rfl⟩)
  go_ret2
  exact ⟨rfl, rfl⟩
set_option maxRecDepth 100000 in
theorem bad12 (n : Int) (h : n < 1 ∨ 5 < n) (w : World) : Calls Tryd.prog 12 #[.int .i64 n] w fun e w' => e = .returned (pairV 0 0 0 0 0 0 2) ∧ Below w.heap.size w w' := by
  have HB := Lib.hid (below_alloc w)
  go_enter Tryd.func12, Tryd.ntmps12
  go_wp2_with (go_at_call 52; refine (all_bad _ h _).mono ?_; rintro e w' ⟨rfl, rfl⟩)
  (try simp only [Exit.inBlock, Exit.then])
  refine bodyPost_ret (v := pairV 0 0 0 0 0 0 2) (by simp [results, Tryd.results12, go_sem, pairV]) rfl ⟨rfl, (HB.out _).alloc (by rw [size_alloc]; omega) _⟩
set_option maxRecDepth 100000 in
theorem bad13 (n : Int) (h : n < 1 ∨ 5 < n) (w : World) : Calls Tryd.prog 13 #[.int .i64 n] w fun e w' => e = .returned (pairV 0 0 0 0 0 0 2) ∧ Below w.heap.size w w' := by
  have HB := Lib.hid (below_alloc w)
  rcases h with h | h
  · go_enter Tryd.func13, Tryd.ntmps13
    go_wp2
    (try simp only [Exit.inBlock, Exit.then])
    refine bodyPost_ret (v := pairV 0 0 0 0 0 0 2) (by simp [results, Tryd.results13, go_sem, pairV]) rfl ⟨rfl, HB.out _⟩
  · have h1 : ¬ n < 1 := by omega
    go_enter Tryd.func13, Tryd.ntmps13
    go_wp2
    (try simp only [Exit.inBlock, Exit.then])
    refine bodyPost_ret (v := pairV 0 0 0 0 0 0 2) (by simp [results, Tryd.results13, go_sem, pairV]) rfl ⟨rfl, HB.out _⟩
set_option maxRecDepth 100000 in
theorem bad14 (n : Int) (h : n < 1 ∨ 5 < n) (w : World) : Calls Tryd.prog 14 #[.int .i64 n] w fun e w' => e = .returned (pairV 0 0 0 0 0 0 2) ∧ Below w.heap.size w w' := by
  have HB := Lib.hid (below_alloc w)
  go_enter Tryd.func14, Tryd.ntmps14
  go_wp2_with (go_at_call 52; refine (all_bad _ h _).mono ?_; rintro e w' ⟨rfl, rfl⟩)
  (try simp only [Exit.inBlock, Exit.then])
  refine bodyPost_ret (v := pairV 0 0 0 0 0 0 2) (by simp [results, Tryd.results14, go_sem, pairV]) rfl ⟨rfl, HB.out _⟩
set_option maxRecDepth 100000 in
theorem bad15 (n : Int) (h : n < 1 ∨ 5 < n) (w : World) : Calls Tryd.prog 15 #[.int .i64 n] w fun e w' => e = .returned (pairV 0 0 0 0 0 0 2) ∧ Below w.heap.size w w' := by
  have HB := Lib.hid (below_alloc w)
  rcases h with h | h
  · go_enter Tryd.func15, Tryd.ntmps15
    go_wp2
    (try simp only [Exit.inBlock, Exit.then])
    refine bodyPost_ret (v := pairV 0 0 0 0 0 0 2) (by simp [results, Tryd.results15, go_sem, pairV]) rfl ⟨rfl, HB.out _⟩
  · have h1 : ¬ n < 1 := by omega
    go_enter Tryd.func15, Tryd.ntmps15
    go_wp2
    (try simp only [Exit.inBlock, Exit.then])
    refine bodyPost_ret (v := pairV 0 0 0 0 0 0 2) (by simp [results, Tryd.results15, go_sem, pairV]) rfl ⟨rfl, HB.out _⟩
theorem complete_any (n : Int) : ∃ k r0 r1 r2 r3 r4 e : Int, (∀ w : World, Calls Tryd.prog 12 #[.int .i64 n] w fun x w' => x = .returned (pairV k r0 r1 r2 r3 r4 e) ∧ Below w.heap.size w w') ∧ (∀ w : World, Calls Tryd.prog 13 #[.int .i64 n] w fun x w' => x = .returned (pairV k r0 r1 r2 r3 r4 e) ∧ Below w.heap.size w w') := by
  by_cases h : n < 1 ∨ 5 < n
  · exact ⟨_, _, _, _, _, _, _, bad12 n h, bad13 n h⟩
  have hc : n = 1 ∨ n = 2 ∨ n = 3 ∨ n = 4 ∨ n = 5 := by omega
  rcases hc with rfl | rfl | rfl | rfl | rfl
  · exact ⟨_, _, _, _, _, _, _, closed run12_1, closed run13_1⟩
  · exact ⟨_, _, _, _, _, _, _, closed run12_2, closed run13_2⟩
  · exact ⟨_, _, _, _, _, _, _, closed run12_3, closed run13_3⟩
  · exact ⟨_, _, _, _, _, _, _, closed run12_4, closed run13_4⟩
  · exact ⟨_, _, _, _, _, _, _, closed run12_5, closed run13_5⟩
theorem silent_any (n : Int) : ∃ k r0 r1 r2 r3 r4 e : Int, (∀ w : World, Calls Tryd.prog 14 #[.int .i64 n] w fun x w' => x = .returned (pairV k r0 r1 r2 r3 r4 e) ∧ Below w.heap.size w w') ∧ (∀ w : World, Calls Tryd.prog 15 #[.int .i64 n] w fun x w' => x = .returned (pairV k r0 r1 r2 r3 r4 e) ∧ Below w.heap.size w w') := by
  by_cases h : n < 1 ∨ 5 < n
  · exact ⟨_, _, _, _, _, _, _, bad14 n h, bad15 n h⟩
  have hc : n = 1 ∨ n = 2 ∨ n = 3 ∨ n = 4 ∨ n = 5 := by omega
  rcases hc with rfl | rfl | rfl | rfl | rfl
  · exact ⟨_, _, _, _, _, _, _, closed run14_1, closed run15_1⟩
  · exact ⟨_, _, _, _, _, _, _, closed run14_2, closed run15_2⟩
  · exact ⟨_, _, _, _, _, _, _, closed run14_3, closed run15_3⟩
  · exact ⟨_, _, _, _, _, _, _, closed run14_4, closed run15_4⟩
  · exact ⟨_, _, _, _, _, _, _, closed run14_5, closed run15_5⟩
end Go.Proofs.YtajhejdeijhccaaDoor.Graph
