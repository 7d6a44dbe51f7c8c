/-
  What a closed call gives, where it is plain data: the value itself.
-/
import Derived.Test.YtpdlnijdcgcfbabDoorEvU
namespace Go.Ev
open Go Go.RowKit

mutual
noncomputable def plainV : AV → Option Value
  | .bool b => some (.bool b)
  | .int k n => some (.int k n)
  | .str s => some (.string ⟨⟨s⟩⟩)
  | .agg cs => (plainVs cs).map fun l => .agg ⟨l⟩
  | .tup cs => (plainVs cs).map fun l => .tuple ⟨l⟩
  | _ => none
noncomputable def plainVs : List AV → Option (List Value)
  | [] => some []
  | a :: as => match plainV a, plainVs as with
    | some v, some vs => some (v :: vs)
    | _, _ => none
end
mutual
theorem VR.plain {c : Ctx} : ∀ {a : AV} {v : Value}, VR c a v → ∀ u, plainV a = some u → v = u
  | _, _, .bool b, u, h => by simpa [plainV] using h
  | _, _, .int k n, u, h => by simpa [plainV] using h
  | _, _, .str l, u, h => by simpa [plainV] using h
  | _, _, .agg (cs := cs) hs, u, h => by
    simp only [plainV, Option.map_eq_some_iff] at h
    obtain ⟨l, hl, rfl⟩ := h
    rw [VRs.plain hs l hl]
  | _, _, .tup (cs := cs) hs, u, h => by
    simp only [plainV, Option.map_eq_some_iff] at h
    obtain ⟨l, hl, rfl⟩ := h
    rw [VRs.plain hs l hl]
  | _, _, .nilp, _, h => by simp [plainV] at h
  | _, _, .ptr _ _, _, h => by simp [plainV] at h
  | _, _, .nils, _, h => by simp [plainV] at h
  | _, _, .esl _ _, _, h => by simp [plainV] at h
  | _, _, .slice _ _ _ _ _ _, _, h => by simp [plainV] at h
  | _, _, .nilm, _, h => by simp [plainV] at h
  | _, _, .map _, _, h => by simp [plainV] at h
  | _, _, .fn _ _ _, _, h => by simp [plainV] at h
  | _, _, .yld _, _, h => by simp [plainV] at h
  | _, _, .nilf, _, h => by simp [plainV] at h
  | _, _, .nili, _, h => by simp [plainV] at h
  | _, _, .iface _ _, _, h => by simp [plainV] at h
  | _, _, .unk _ _, _, h => by simp [plainV] at h
  | _, _, .big _ _, _, h => by simp [plainV] at h
  | _, _, .cong _ _ _, _, h => by simp [plainV] at h
theorem VRs.plain {c : Ctx} : ∀ {a : List AV} {v : List Value}, VRs c a v → ∀ u, plainVs a = some u → v = u
  | _, _, .nil, u, h => by simpa [plainVs] using h
  | _, _, .cons (a := a) (as := as) h1 t, u, h => by
    cases ha : plainV a with
    | none => simp [plainVs, ha] at h
    | some x =>
      cases hb : plainVs as with
      | none => simp [plainVs, ha, hb] at h
      | some xs =>
        simp only [plainVs, ha, hb, Option.some.injEq] at h
        rw [← h, VR.plain h1 x ha, VRs.plain t xs hb]
end
noncomputable def outV : Option (AV × Hp) → Option Value
  | some (v, _) => plainV v
  | none => none
/-- A closed call's plain result. -/
theorem call_plain {C : Cfg} {w : World} (K : CfgOK C (Kp.low w.heap.size) w) {ts : List Tab} (hG : ∀ g r, C.glob g = some r → ∃ t, ts[r]? = some t ∧ t.blk = g) {d : Nat} {f : FuncId} {args : List AV} {args' : List Value} (hA : VRs (tabCtx ts) args args')
    {u : Value} (e : outV ((evRec C d).call f args (tabHp ts)) = some u) (H : Held w ts) :
    Calls C.P f ⟨args'⟩ w fun e w' => e = .returned u ∧ Below w.heap.size w w' := by
  cases hc : (evRec C d).call f args (tabHp ts) with
  | none => rw [hc] at e; cases e
  | some r =>
    obtain ⟨v, h'⟩ := r
    rw [hc] at e
    refine (call_held K hG hA hc H).mono fun ed w' ⟨c', x, he, hv, hb⟩ => ⟨?_, hb⟩
    rw [he, hv.plain u e]
#print axioms call_plain
end Go.Ev
