/-
  RoundPermutes at whatever can be read: the step from its walk to its row.
-/
import Derived.Test.YtlineonmpbdkgaaDoorEvRoSeatRow
import Derived.Test.YtlineonmpbdkgaaDoorEvRoPermutesWalk
import Derived.Test.YtlineonmpbdkgaaDoorEvLaw
import Derived.ChangeMaps5
import Derived.Test.YtlineonmpbdkgaaDoorEvAggs
namespace Go.Proofs.YtlineonmpbdkgaaDoor.roundPermutes
open Go Go.Ev Go.RowKit Go.ChangeShapes Go.WideShapes Go.ChangeAt
open Go.Proofs.YtlineonmpbdkgaaDoor.Ev

open Go.ChangeMaps (open_string)
theorem kids : Kids Tryd.prog (· < Tryd.prog.types.size) := kids_rows (by kernel_rfl) (by kernel_rfl)
theorem full : ∀ t e, t < Tryd.prog.types.size → Tryd.prog.underlying t = some (.slice e) → 0 < Tryd.prog.cellsOf e := slices_full_of _ (by kernel_rfl)
theorem open7 {P : Program} {w : World} {r : Reach} {base : Nat} {t e : TypeId} {v : Value} {k : IntKind} (hu : (∃ fs, P.underlying t = some (.struct fs)) ∨ ∃ n e, P.underlying t = some (.array n e))
    (hc : P.cellsOf t = 7) (ht : P.cellTypes P.depth t = some (List.replicate 7 e)) (he : P.underlying e = some (.int k)) (h : Value.okWide P w r base t v) :
    ∃ x0 x1 x2 x3 x4 x5 x6 : Int, v = .agg #[.int k x0, .int k x1, .int k x2, .int k x3, .int k x4, .int k x5, .int k x6] := by
  obtain ⟨zs, hl, rfl⟩ := Law.open_agg hu hc ht he h
  match zs, hl with
  | [x0, x1, x2, x3, x4, x5, x6], _ => exact ⟨x0, x1, x2, x3, x4, x5, x6, rfl⟩
theorem small : (Tryd.f4.params.toList.all fun t => decide (t < Tryd.prog.types.size)) = true := by kernel_rfl

set_option maxRecDepth 100000 in
theorem contract (H : Type) (enc : TypeId × Value → H) (W : World) (base : Nat) (args : Array Value) (ds gs : List (DataW H)) (before : List MemPlace)
    (hval : ∀ (j : Nat) t v, Tryd.f4.params[j]? = some t → args[j]? = some v → Value.okWide Tryd.prog W .any base t v)
    (hW : DataW.Whole enc Tryd.prog Tryd.f4.params.toList Rows.roundPermutesSpec.vars false W args.toList ds gs before) (hL : laidMetH Tryd.prog Rows.roundPermutesRow.laid W) (hS : W.ShapedOpen Tryd.prog) :
    Calls Tryd.prog 4 args W fun e W' => ∃ v, e = .returned v ∧ Rows.roundPermutesSpec.post enc Tryd.prog Tryd.f4 false true false false W args v W' := by
  have hW' := hW
  obtain ⟨p, q, hA0, hV, rfl, hfz, hnd⟩ := hW
  have hA : DataW.TrodAll enc Tryd.prog W 0 (fun _ => true) true Tryd.f4.params.toList args.toList ds p := hA0
  rw [Tryd.params4] at hA hval
  obtain ⟨v0, vs0, d0, ds0, p0, q0, hargs, rfl, rfl, h0, r0⟩ := trodAll_cons hA
  obtain ⟨v1, vs1, d1, ds1, p1, q1, rfl, rfl, rfl, h1, r1⟩ := trodAll_cons r0
  obtain ⟨rfl, rfl, rfl⟩ := trodAll_nil r1
  obtain rfl : args = #[v0, v1] := by cases args; simp_all
  obtain ⟨rfl, rfl⟩ := trodVars_none hV
  obtain ⟨a0_0, a0_1, a0_2, a0_3, a0_4, a0_5, a0_6, rfl⟩ := open7 (Or.inl ⟨_, Tryd.underlying26⟩) (by kernel_rfl) (by kernel_rfl) Tryd.underlying3 (hval 0 26 v0 rfl rfl)
  obtain ⟨z1, hz1, _⟩ := Law.open_ints Tryd.underlying33 Tryd.underlying3 (by kernel_rfl) (hval 1 33 v1 rfl rfl) h1
  obtain ⟨e0, e1, hheld⟩ := held hL
  refine (Graph.roundPermutes_walk hheld (len_of hS) a0_0 a0_1 a0_2 a0_3 a0_4 a0_5 a0_6 hz1).mono fun e W' ⟨he, hb⟩ => ?_
  subst he
  exact ⟨_, rfl, Law.post_law kids full (fun t ht => of_decide_eq_true (List.all_eq_true.1 small t ht)) rfl rfl rfl Tryd.underlying4 hW' hb (ok_one (by kernel_rfl) rfl (okWide_bool_mk Tryd.underlying4 _))⟩
end Go.Proofs.YtlineonmpbdkgaaDoor.roundPermutes
