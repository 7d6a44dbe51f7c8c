/-
  GraphRoots at whatever can be read: the step from its walk to its row.
-/
import Derived.Test.YtajhejdeijhccaaDoorEvGSeatRow
import Derived.Test.YtajhejdeijhccaaDoorEvGRoots5
import Derived.Test.YtajhejdeijhccaaDoorEvLaw
import Derived.ChangeMaps5
import Derived.Test.YtajhejdeijhccaaDoorEvAggs
namespace Go.Proofs.YtajhejdeijhccaaDoor.graphRoots
open Go Go.Ev Go.RowKit Go.ChangeShapes Go.WideShapes Go.ChangeAt
open Go.Proofs.YtajhejdeijhccaaDoor.Ev

open Go.ChangeMaps (open_string)
theorem kids : Kids Tryd.prog (· < Tryd.prog.types.size) := kids_rows (by kernel_rfl) (by kernel_rfl)
theorem full : ∀ t e, t < Tryd.prog.types.size → Tryd.prog.underlying t = some (.slice e) → 0 < Tryd.prog.cellsOf e := slices_full_of _ (by kernel_rfl)
theorem open24 {P : Program} {w : World} {r : Reach} {base : Nat} {t e : TypeId} {v : Value} {k : IntKind} (hu : (∃ fs, P.underlying t = some (.struct fs)) ∨ ∃ n e, P.underlying t = some (.array n e))
    (hc : P.cellsOf t = 24) (ht : P.cellTypes P.depth t = some (List.replicate 24 e)) (he : P.underlying e = some (.int k)) (h : Value.okWide P w r base t v) :
    ∃ x0 x1 x2 x3 x4 x5 x6 x7 x8 x9 x10 x11 x12 x13 x14 x15 x16 x17 x18 x19 x20 x21 x22 x23 : Int, v = .agg #[.int k x0, .int k x1, .int k x2, .int k x3, .int k x4, .int k x5, .int k x6, .int k x7, .int k x8, .int k x9, .int k x10, .int k x11, .int k x12, .int k x13, .int k x14, .int k x15, .int k x16, .int k x17, .int k x18, .int k x19, .int k x20, .int k x21, .int k x22, .int k x23] := by
  obtain ⟨zs, hl, rfl⟩ := Law.open_agg hu hc ht he h
  match zs, hl with
  | [x0, x1, x2, x3, x4, x5, x6, x7, x8, x9, x10, x11, x12, x13, x14, x15, x16, x17, x18, x19, x20, x21, x22, x23], _ => exact ⟨x0, x1, x2, x3, x4, x5, x6, x7, x8, x9, x10, x11, x12, x13, x14, x15, x16, x17, x18, x19, x20, x21, x22, x23, rfl⟩
theorem small : (Tryd.f10.params.toList.all fun t => decide (t < Tryd.prog.types.size)) = true := by kernel_rfl

set_option maxRecDepth 100000 in
theorem contract (H : Type) (enc : TypeId × Value → H) (W : World) (base : Nat) (args : Array Value) (ds gs : List (DataW H)) (before : List MemPlace)
    (hval : ∀ (j : Nat) t v, Tryd.f10.params[j]? = some t → args[j]? = some v → Value.okWide Tryd.prog W .any base t v)
    (hW : DataW.Whole enc Tryd.prog Tryd.f10.params.toList Rows.graphRootsSpec.vars false W args.toList ds gs before) (hL : laidMetH Tryd.prog Rows.graphRootsRow.laid W) :
    Calls Tryd.prog 10 args W fun e W' => ∃ v, e = .returned v ∧ Rows.graphRootsSpec.post enc Tryd.prog Tryd.f10 false true false false W args v W' := by
  have hW' := hW
  obtain ⟨p, q, hA0, hV, rfl, hfz, hnd⟩ := hW
  have hA : DataW.TrodAll enc Tryd.prog W 0 (fun _ => true) true Tryd.f10.params.toList args.toList ds p := hA0
  rw [Tryd.params10] at hA hval
  obtain ⟨v0, vs0, d0, ds0, p0, q0, hargs, rfl, rfl, h0, r0⟩ := trodAll_cons hA
  obtain ⟨rfl, rfl, rfl⟩ := trodAll_nil r0
  obtain rfl : args = #[v0] := by cases args; simp_all
  obtain ⟨rfl, rfl⟩ := trodVars_none hV
  obtain ⟨a0_0, a0_1, a0_2, a0_3, a0_4, a0_5, a0_6, a0_7, a0_8, a0_9, a0_10, a0_11, a0_12, a0_13, a0_14, a0_15, a0_16, a0_17, a0_18, a0_19, a0_20, a0_21, a0_22, a0_23, rfl⟩ := open24 (Or.inr ⟨_, _, Tryd.underlying73⟩) (by kernel_rfl) (by kernel_rfl) Tryd.underlying3 (hval 0 73 v0 rfl rfl)
  refine (Graph.graphRoots_walk a0_0 a0_1 a0_2 a0_3 a0_4 a0_5 a0_6 a0_7 a0_8 a0_9 a0_10 a0_11 a0_12 a0_13 a0_14 a0_15 a0_16 a0_17 a0_18 a0_19 a0_20 a0_21 a0_22 a0_23).mono fun e W' ⟨he, hb⟩ => ?_
  subst he
  exact ⟨_, rfl, Law.post_law kids full (fun t ht => of_decide_eq_true (List.all_eq_true.1 small t ht)) rfl rfl rfl Tryd.underlying4 hW' hb (ok_one (by kernel_rfl) rfl (okWide_bool_mk Tryd.underlying4 _))⟩
end Go.Proofs.YtajhejdeijhccaaDoor.graphRoots
