/-
  ProcsetChooses: its call, by the kernel.
-/
import Derived.Test.YtpdlnijdcgcfbaaDoorEvDoorSeat
namespace Go.Proofs.YtpdlnijdcgcfbaaDoor.procsetChooses
open Go Go.Ev Go.RowKit
open Go.Proofs.YtpdlnijdcgcfbaaDoor.Ev
noncomputable def runV (a b : Int) (k : AV) (e0 e1 e2 : TypeId) : Bool := isTrue ((F.evRec (fast pr1) 50).call 5 [.int .i64 a, .int .i64 b, k] (tabHp (tabs e0 e1 e2)))
noncomputable def run (a b k : Int) (e0 e1 e2 : TypeId) : Bool := runV a b (.int .i64 k) e0 e1 e2
noncomputable def runB (a b : Int) (e0 e1 e2 : TypeId) : Bool := runV a b (.big 6) e0 e1 e2
noncomputable def runs (a b : Int) (e0 e1 e2 : TypeId) : Bool := [0, 1, 2, 3, 4, 5].all fun k => run a b (.ofNat k) e0 e1 e2
noncomputable def runL (l : List Nat) (a b : Int) (e0 e1 e2 : TypeId) : Bool := l.all fun k => run a b (.ofNat k) e0 e1 e2
theorem runs_of {a b : Int} {e0 e1 e2 : TypeId} (h : runL [0, 1, 2] a b e0 e1 e2 = true) (g : runL [3, 4, 5] a b e0 e1 e2 = true) : runs a b e0 e1 e2 = true := by
  unfold runL at h g
  unfold runs
  simp only [List.all_cons, List.all_nil, Bool.and_true, Bool.and_eq_true] at h g ⊢
  exact ⟨h.1, h.2.1, h.2.2, g⟩
end Go.Proofs.YtpdlnijdcgcfbaaDoor.procsetChooses
