/-
  ProcsetCounts: cases, by the kernel.
-/
import Derived.Test.YtpdlnijdcgcfbaaDoorEvSeat
namespace Go.Proofs.YtpdlnijdcgcfbaaDoor.procsetCounts
open Go Go.Ev Go.RowKit
open Go.Proofs.YtpdlnijdcgcfbaaDoor.Ev
noncomputable def run (a b : Int) (e0 e1 e2 : TypeId) : Bool := isTrue ((F.evRec (fast pr1) 50).call 8 [.int .i64 a, .int .i64 b] (tabHp (tabs e0 e1 e2)))
end Go.Proofs.YtpdlnijdcgcfbaaDoor.procsetCounts
