/-
  GraphRenames at whatever can be read: the step from its walk to its row.
-/
import Derived.Test.YtajhejdeijhccaaDoorEvGSeatRow
import Derived.Test.YtajhejdeijhccaaDoorEvGRenames
import Derived.Test.YtajhejdeijhccaaDoorEvLaw
import Derived.ChangeMaps5
import Derived.Test.YtajhejdeijhccaaDoorEvAggs
namespace Go.Proofs.YtajhejdeijhccaaDoor.graphRenames
open Go Go.Ev Go.RowKit Go.ChangeShapes Go.WideShapes Go.ChangeAt
open Go.Proofs.YtajhejdeijhccaaDoor.Ev

open Go.ChangeMaps (open_string)
theorem kids : Kids Tryd.prog (· < Tryd.prog.types.size) := kids_rows (by kernel_rfl) (by kernel_rfl)
theorem full : ∀ t e, t < Tryd.prog.types.size → Tryd.prog.underlying t = some (.slice e) → 0 < Tryd.prog.cellsOf e := slices_full_of _ (by kernel_rfl)
theorem small : (Tryd.f9.params.toList.all fun t => decide (t < Tryd.prog.types.size)) = true := by kernel_rfl

set_option maxRecDepth 100000 in
theorem contract (H : Type) (enc : TypeId × Value → H) (W : World) (base : Nat) (args : Array Value) (ds gs : List (DataW H)) (before : List MemPlace)
    (hval : ∀ (j : Nat) t v, Tryd.f9.params[j]? = some t → args[j]? = some v → Value.okWide Tryd.prog W .any base t v)
    (hW : DataW.Whole enc Tryd.prog Tryd.f9.params.toList Rows.graphRenamesSpec.vars false W args.toList ds gs before) (hL : laidMetH Tryd.prog Rows.graphRenamesRow.laid W) :
    Calls Tryd.prog 9 args W fun e W' => ∃ v, e = .returned v ∧ Rows.graphRenamesSpec.post enc Tryd.prog Tryd.f9 false true false false W args v W' := by
  have hW' := hW
  obtain ⟨p, q, hA0, hV, rfl, hfz, hnd⟩ := hW
  have hA : DataW.TrodAll enc Tryd.prog W 0 (fun _ => true) true Tryd.f9.params.toList args.toList ds p := hA0
  rw [Tryd.params9] at hA hval
  obtain ⟨v0, vs0, d0, ds0, p0, q0, hargs, rfl, rfl, h0, r0⟩ := trodAll_cons hA
  obtain ⟨v1, vs1, d1, ds1, p1, q1, rfl, rfl, rfl, h1, r1⟩ := trodAll_cons r0
  obtain ⟨v2, vs2, d2, ds2, p2, q2, rfl, rfl, rfl, h2, r2⟩ := trodAll_cons r1
  obtain ⟨rfl, rfl, rfl⟩ := trodAll_nil r2
  obtain rfl : args = #[v0, v1, v2] := by cases args; simp_all
  obtain ⟨rfl, rfl⟩ := trodVars_none hV
  obtain ⟨a0_0, a0_1, a0_2, a0_3, a0_4, a0_5, rfl⟩ := Law.open_agg6 (Or.inl ⟨_, Tryd.underlying24⟩) (by kernel_rfl) (by kernel_rfl) Tryd.underlying3 (hval 0 24 v0 rfl rfl)
  obtain ⟨a1_0, a1_1, a1_2, a1_3, a1_4, a1_5, rfl⟩ := Law.open_agg6 (Or.inl ⟨_, Tryd.underlying24⟩) (by kernel_rfl) (by kernel_rfl) Tryd.underlying3 (hval 1 24 v1 rfl rfl)
  obtain ⟨z2, hz2, _⟩ := Law.open_ints Tryd.underlying40 Tryd.underlying3 (by kernel_rfl) (hval 2 40 v2 rfl rfl) h2
  refine (Graph.graphRenames_walk a0_0 a0_1 a0_2 a0_3 a0_4 a0_5 a1_0 a1_1 a1_2 a1_3 a1_4 a1_5 hz2).mono fun e W' ⟨he, hb⟩ => ?_
  subst he
  exact ⟨_, rfl, Law.post_law kids full (fun t ht => of_decide_eq_true (List.all_eq_true.1 small t ht)) rfl rfl rfl Tryd.underlying4 hW' hb (ok_one (by kernel_rfl) rfl (okWide_bool_mk Tryd.underlying4 _))⟩
end Go.Proofs.YtajhejdeijhccaaDoor.graphRenames
