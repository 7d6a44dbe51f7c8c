/-
  What the rows' proofs of this seat share: the step from a walk to the row, and a world for the witness.
-/
import Derived.Test.YtlineonmpbdkgaaDoorEvRoSeat
import Derived.Test.YtlineonmpbdkgaaDoorEvX
import Derived.Test.YtlineonmpbdkgaaDoorCards
import Derived.Test.YtlineonmpbdkgaaDoorTie
import Derived.WalkKit
import Derived.ProofKit
import Derived.OpenShut
import Derived.SevenTiedAt
import Derived.Deep.DeepHandedRow
namespace Go.Proofs.YtlineonmpbdkgaaDoor.Ev
open Go Go.Ev Go.RowKit Go.ChangeShapes Go.WideShapes Go.ChangeAt

theorem own : ownKnob Tryd.prog.godebug = none := by kernel_rfl

/-! A world for the witness: the tables hold what they are listed with. -/
noncomputable def z5 : List Int := [128, 191, 160, 191, 128, 159, 144, 191, 128, 143, 0, 0, 0, 0, 0, 0, 0, 0, 0, 0, 0, 0, 0, 0, 0, 0, 0, 0, 0, 0, 0, 0]
noncomputable def lay (g : Nat) (k : IntKind) (zs : List Int) (h : Array Obj) : Array Obj := h.modify g fun
  | .cells _ t frozen => .cells ⟨zs.map (Value.int k)⟩ t frozen
  | o => o
noncomputable def laidHeap (h : Array Obj) : Array Obj := lay 4 .u8 z5 (lay 3 .u8 (Pinned.utf8FirstZ.map Int.ofNat) (lay 2 .u8 z1 (lay 1 .u8 z0 h)))
noncomputable def laidWorld (os : Os) (args : Array Value) : World :=
  { World.holding Tryd.prog os ⟨#[], args, []⟩ with heap := laidHeap (World.holding Tryd.prog os ⟨#[], args, []⟩).heap }
end Go.Proofs.YtlineonmpbdkgaaDoor.Ev
