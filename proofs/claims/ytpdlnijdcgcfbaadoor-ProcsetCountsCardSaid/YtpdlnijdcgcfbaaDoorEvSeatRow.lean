/-
  What the rows' proofs of this seat share: the step from a walk to the row, and a world for the witness.
-/
import Derived.Test.YtpdlnijdcgcfbaaDoorEvSeat
import Derived.Test.YtpdlnijdcgcfbaaDoorCards
import Derived.Test.YtpdlnijdcgcfbaaDoorTie
import Derived.WalkKit
import Derived.ProofKit
import Derived.OpenShut
import Derived.SevenTiedAt
import Derived.Deep.DeepHandedRow
namespace Go.Proofs.YtpdlnijdcgcfbaaDoor.Ev
open Go Go.Ev Go.RowKit Go.ChangeShapes Go.WideShapes Go.ChangeAt

theorem own : ownKnob Tryd.prog.godebug = none := by kernel_rfl

/-- The arguments are data without memory of their own, the result too: of a call that leaves all that was there as it was. -/
theorem post_bare {H : Type} {enc : TypeId × Value → H} {P : Program} {f : Func} {s : ChangeSpec} {apart fresh handsOn again : Bool} {W W' : World} {args : Array Value} {v : Value} {ds gs : List (DataW H)}
    (hW : DataW.Whole enc P f.params.toList s.vars apart W args.toList ds gs [])
    (hres : ∀ (b : Nat) (sp : Nat → Bool) (hd : Bool), DataW.TrodAll enc P W' b sp hd f.resultTypes.toList (v.resultList f.resultTypes.size) (s.fn H (ds ++ gs)).results [])
    (hargs : ∀ sp : Nat → Bool, DataW.TrodAll enc P W' 0 sp true f.params.toList args.toList (s.fn H (ds ++ gs)).args [])
    (hvars : ∀ sp : Nat → Bool, DataW.TrodVars enc P W' sp s.vars (s.fn H (ds ++ gs)).vars [])
    (hb : Below W.heap.size W W')
    (hok : ∀ (j : Nat) (t : TypeId) (r : Value), f.resultTypes[j]? = some t → (v.resultList f.resultTypes.size)[j]? = some r → Value.okWide P W' .any 0 t r) :
    s.post enc P f apart fresh handsOn again W args v W' := by
  refine ⟨ds, gs, [], [], [], [], hW, hres _ _ _, hargs _, hvars _, hb.frame _, fun _ => ⟨hok, _, _, [], ⟨[], [], trodAll_append (hargs _) (hres _ _ _), hvars _, rfl, fun b off hp => by simp at hp, fun _ => List.nodup_nil⟩, fun p hp => by simp at hp⟩⟩

/-! A world for the witness: the tables hold what they are listed with. -/
noncomputable def z5 : List Int := [128, 191, 160, 191, 128, 159, 144, 191, 128, 143, 0, 0, 0, 0, 0, 0, 0, 0, 0, 0, 0, 0, 0, 0, 0, 0, 0, 0, 0, 0, 0, 0]
noncomputable def lay (g : Nat) (k : IntKind) (zs : List Int) (h : Array Obj) : Array Obj := h.modify g fun
  | .cells _ t frozen => .cells ⟨zs.map (Value.int k)⟩ t frozen
  | o => o
noncomputable def laidHeap (h : Array Obj) : Array Obj := lay 5 .u8 z5 (lay 4 .u8 (Pinned.utf8FirstZ.map Int.ofNat) (lay 2 .u64 z2 (lay 1 .u8 z1 (lay 0 .u8 z0 h))))
noncomputable def laidWorld (os : Os) (args : Array Value) : World :=
  { World.holding Tryd.prog os ⟨#[], args, []⟩ with heap := laidHeap (World.holding Tryd.prog os ⟨#[], args, []⟩).heap }
end Go.Proofs.YtpdlnijdcgcfbaaDoor.Ev
