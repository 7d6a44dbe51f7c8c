/-
  Operations that only read, sharper: the machine gives a value in the same context and the same world. Operations that lay one new row. Written by genV.py out of XKwN.
-/
import Derived.Test.YtjggeombkbianaaEvP
set_option linter.unusedSimpArgs false
set_option linter.unusedVariables false
set_option linter.unusedSectionVars false
namespace Go.Ev
open Go Go.RowKit

def ObR (P : Program) (c : Ctx) (s : Sem Next) (w : World) : ANext → Prop
  | .val a => ∃ u, s.run P w = .ok (.value u) w ∧ VR c a u
  | _ => False
/-- The operation lays one new row. -/
def RowN (P : Program) (c : Ctx) (s : Sem Next) (w : World) (elem : TypeId) (cells : List AV) (mk : Nat → AV) : Prop :=
  ∃ (vs : List Value) (u : Value), s.run P w = .ok (.value u) (w.alloc (.cells ⟨vs⟩ elem)) ∧ VRs c cells vs ∧ (∀ v ∈ vs, v.oneCell' = true) ∧ ∀ (d : Ctx) (r : Nat), d r = some ⟨w.heap.size, 0, vs.length⟩ → VR d (mk r) u
theorem RowV.next {P : Program} {c : Ctx} {s : Sem Value} {w : World} {elem : TypeId} {cells : List AV} {mk : Nat → AV} (h : RowV P c s w elem cells mk) : RowN P c (do pure (.value (← s))) w elem cells mk := by
  obtain ⟨vs, u, hr, h2⟩ := h
  exact ⟨vs, u, by rw [Sem.run_bind, hr]; rfl, h2⟩
section
variable {C : Cfg} {B : Kp} {w0 w : World} {c : Ctx} {h : Hp}
theorem ObR.pureV {s : Sem Value} {a : AV} (e : ∃ u, s.run C.P w = .ok u w ∧ VR c a u) : ObR C.P c (do pure (.value (← s))) w (.val a) := by
  obtain ⟨u, hr, hv⟩ := e
  exact ⟨u, by rw [Sem.run_bind, hr]; rfl, hv⟩
theorem ObR.ofO {s : Sem Value} {o : Option AV} {n : ANext} {h' : Hp} (e : ANext.ofO o h = some (n, h')) (hs : ∀ a, o = some a → ∃ u, s.run C.P w = .ok u w ∧ VR c a u) :
    ObR C.P c (do pure (.value (← s))) w n := by
  cases o with
  | none => cases e
  | some a => cases e; exact ObR.pureV (hs a rfl)

theorem aBuiltin_obs (H : HR B w0 c h w) {b : Builtin} (hb : b = .len ∨ b = .cap ∨ b = .max ∨ b = .min ∨ b = .unsafeSliceData) {ts : Array TypeId} {ty : TypeId} {consts : Array Bool} {args : List AV} {args' : List Value} (ha : VRs c args args') {n : ANext} {h' : Hp}
    (e : aBuiltin C h b ts args = some (n, h')) : ObR C.P c (builtin b ts ty consts ⟨args'⟩) w n := by
  unfold aBuiltin at e
  split at e
  · simp at hb
  · simp at hb
  · simp at hb
  · cases ha with
    | cons h1 t => cases t; exact ObR.ofO (C := C) e fun a ho => aLen_run H h1 ho
  · cases ha with
    | cons h1 t => cases t; exact ObR.ofO (C := C) e fun a ho => aCap_run h1 ho w
  · simp at hb
  · cases e
    cases ha with
    | cons h1 t =>
      cases t
      cases h1 with
      | slice cap' hL h1 h2 h3 h4 =>
        exact ObR.pureV (C := C) ⟨_, Lib.run_unsafeSliceData_row w ts ty _ _ cap' (by omega), .ptr _ hL⟩
  · cases e
    cases ha with
    | cons h1 t => cases t; cases h1; exact ObR.pureV (C := C) ⟨_, Lib.run_unsafeSliceData_nil w ts ty _ _, .nilp⟩
  · cases ha with
    | cons h1 t => exact ObR.ofO (C := C) e fun a ho => minmax_run true h1 t ho w
  · cases ha with
    | cons h1 t => exact ObR.ofO (C := C) e fun a ho => minmax_run false h1 t ho w
  · cases e

set_option maxHeartbeats 800000 in
theorem obs_run {s : St} {act : Act} {o : Oper} (hob : isObs o = true) (hv : OV C c s act o.op.operands.toList) (H : HR B w0 c s.hp w) {n : ANext} {h' : Hp} (e : aOp C s o = some (n, h')) :
    ObR C.P c (execOp act.eval o) w n := by
  obtain ⟨dst, op, type, pos, after, guard⟩ := o
  unfold aOp at e
  unfold isObs at hob
  cases op <;> simp only at e hob <;> try (first | (cases e; done) | (cases hob; done))
  case move x => exact ObR.ofO (C := C) (s := pure (act.eval x)) e fun a ho => ⟨_, rfl, hv _ (by simp [Op.operands, Call.operands, *]) _ ho⟩
  case assign x => exact ObR.ofO (C := C) (s := pure (act.eval x)) e fun a ho => ⟨_, rfl, hv _ (by simp [Op.operands, Call.operands, *]) _ ho⟩
  case pick x a b =>
    unfold oPick at e
    split at e
    · rename_i hc
      have hb := hv _ (by simp [Op.operands, Call.operands, *]) _ hc
      generalize hev : act.eval x = v at hb
      cases hb
      cases ha : s.opd C a with
      | none => rw [ha] at e; cases e
      | some r =>
        rw [ha] at e; cases e
        exact ⟨act.eval a, by simp only [execOp, hev]; rfl, hv _ (by simp [Op.operands, Call.operands, *]) _ ha⟩
    · rename_i hc
      have hb := hv _ (by simp [Op.operands, Call.operands, *]) _ hc
      generalize hev : act.eval x = v at hb
      cases hb
      cases ha : s.opd C b with
      | none => rw [ha] at e; cases e
      | some r =>
        rw [ha] at e; cases e
        exact ⟨act.eval b, by simp only [execOp, hev]; rfl, hv _ (by simp [Op.operands, Call.operands, *]) _ ha⟩
    · cases e
  case build t ps =>
    cases hp : parts C s ps.toList with
    | none => rw [hp] at e; cases e
    | some vs =>
      rw [hp] at e; simp only [oBuild] at e
      refine ObR.ofO (C := C) (s := Instr.build t (ps.map fun (i, x) => (i, act.eval x))) e fun a ho => ?_
      rw [map_mk]
      exact aBuild_run (parts_run (fun x hx => hv x (by simpa [Op.operands] using hx)) hp) ho w
  case load t a =>
    cases ha : s.opd C a with
    | none => rw [ha] at e; cases e
    | some v => rw [ha] at e; simp only [o1] at e; exact ObR.ofO (C := C) (s := Instr.loadAt t (act.eval a)) e fun r ho => aLoad_run H (hv _ (by simp [Op.operands, Call.operands, *]) _ ha) ho
  case nilCheck x =>
    unfold oNil at e
    split at e
    · rename_i r off hc
      have hb := hv _ (by simp [Op.operands, Call.operands, *]) _ hc
      generalize hev : act.eval x = v at hb
      cases e
      cases hb with
      | ptr off hL => exact ⟨_, by simp only [execOp, hev]; rfl, .ptr off hL⟩
    · rename_i f a b hc
      have hb := hv _ (by simp [Op.operands, Call.operands, *]) _ hc
      generalize hev : act.eval x = v at hb
      cases e
      cases hb with
      | fn f ha hb => exact ⟨_, by simp only [execOp, hev]; rfl, .fn f ha hb⟩
    · rename_i l hc
      have hb := hv _ (by simp [Op.operands, Call.operands, *]) _ hc
      generalize hev : act.eval x = v at hb
      cases e
      cases hb with
      | yld hL => exact ⟨_, by simp only [execOp, hev]; rfl, .yld hL⟩
    · cases e
  case binOp bop t x y pos =>
    cases ha : s.opd C x with
    | none => rw [ha] at e; cases e
    | some v =>
      cases hx : s.opd C y with
      | none => rw [ha, hx] at e; cases e
      | some u =>
        rw [ha, hx] at e; simp only [o2] at e
        exact ObR.ofO (C := C) (s := do eqGuard bop t x y (act.eval x) (act.eval y); Go.binOp bop t (act.eval x) (act.eval y)) e fun r ho => aBinAll_run (hv _ (by simp [Op.operands, Call.operands, *]) _ ha) (hv _ (by simp [Op.operands, Call.operands, *]) _ hx) ho x y w
  case unOp uop t x =>
    cases ha : s.opd C x with
    | none => rw [ha] at e; cases e
    | some v =>
      rw [ha] at e; simp only [o1] at e
      refine ObR.ofO (C := C) (s := Op.unary uop (act.eval x)) e fun r ho => ?_
      have hb := hv _ (by simp [Op.operands, Call.operands, *]) _ ha
      unfold aUn at ho
      split at ho
      · generalize hev : act.eval x = v at hb
        cases hb; exact ofIntV_run ho c w
      · generalize hev : act.eval x = v at hb
        cases hb; exact ofIntV_run ho c w
      · cases ho
  case makeFunc fn first captured =>
    cases hf : opds C s first.toList with
    | none => rw [hf] at e; cases fn <;> cases e
    | some a =>
      cases hc : opds C s captured.toList with
      | none => rw [hf, hc] at e; cases fn <;> cases e
      | some b =>
        rw [hf, hc] at e
        cases fn <;> simp only [oMakeFunc] at e <;> try (cases e; done)
        rename_i f
        cases e
        refine ⟨.func (.func f) (first.map act.eval) (captured.map act.eval), rfl, ?_⟩
        rw [map_mk, map_mk]
        exact .fn f (opds_run (fun x hx => hv x (by simp only [Op.operands, Array.toList_append, List.mem_append]; exact .inl hx)) hf) (opds_run (fun x hx => hv x (by simp only [Op.operands, Array.toList_append, List.mem_append]; exact .inr hx)) hc)
  case slice t x lo hi mx =>
    cases ha : s.opd C x with
    | none => rw [ha] at e; cases e
    | some v =>
      cases hl : opt C s lo with
      | none => rw [ha, hl] at e; cases e
      | some l =>
        cases hh : opt C s hi with
        | none => rw [ha, hl, hh] at e; cases e
        | some k =>
          cases hm : opt C s mx with
          | none => rw [ha, hl, hh, hm] at e; cases e
          | some m =>
            rw [ha, hl, hh, hm] at e; simp only [oSlice] at e
            exact ObR.ofO (C := C) (s := Instr.sliceAt t (act.eval x) (lo.map act.eval) (hi.map act.eval) (mx.map act.eval)) e fun r ho => aSlice_run H (hv _ (by simp [Op.operands, Call.operands, *]) _ ha) (opt_run (fun x hx => hv x (by simp only [Op.operands, Array.toList_append, List.mem_append, Option.toList_toArray]; simp [hx])) hl) (opt_run (fun x hx => hv x (by simp only [Op.operands, Array.toList_append, List.mem_append, Option.toList_toArray]; simp [hx])) hh) (opt_run (fun x hx => hv x (by simp only [Op.operands, Array.toList_append, List.mem_append, Option.toList_toArray]; simp [hx])) hm) ho
  case fieldAddr t x f =>
    cases ha : s.opd C x with
    | none => rw [ha] at e; cases e
    | some v => rw [ha] at e; simp only [o1] at e; exact ObR.ofO (C := C) (s := Instr.fieldAt t (act.eval x) f) e fun r ho => aFieldAddr_run (hv _ (by simp [Op.operands, Call.operands, *]) _ ha) ho w
  case field t x f =>
    cases ha : s.opd C x with
    | none => rw [ha] at e; cases e
    | some v => rw [ha] at e; simp only [o1] at e; exact ObR.ofO (C := C) (s := Instr.field t (act.eval x) f) e fun r ho => aField_run (hv _ (by simp [Op.operands, Call.operands, *]) _ ha) ho w
  case indexAddr t x i =>
    cases ha : s.opd C x with
    | none => rw [ha] at e; cases e
    | some v =>
      cases hx : s.opd C i with
      | none => rw [ha, hx] at e; cases e
      | some u => rw [ha, hx] at e; simp only [o2] at e; exact ObR.ofO (C := C) (s := Instr.indexAt t (act.eval x) (act.eval i)) e fun r ho => aIndexAddr_run (hv _ (by simp [Op.operands, Call.operands, *]) _ ha) (hv _ (by simp [Op.operands, Call.operands, *]) _ hx) ho w
  case index t x i =>
    cases ha : s.opd C x with
    | none => rw [ha] at e; cases e
    | some v =>
      cases hx : s.opd C i with
      | none => rw [ha, hx] at e; cases e
      | some u => rw [ha, hx] at e; simp only [o2] at e; exact ObR.ofO (C := C) (s := Instr.index t (act.eval x) (act.eval i)) e fun r ho => aIndex_run (hv _ (by simp [Op.operands, Call.operands, *]) _ ha) (hv _ (by simp [Op.operands, Call.operands, *]) _ hx) ho w
  case extract x i =>
    cases ha : s.opd C x with
    | none => rw [ha] at e; cases e
    | some v =>
      rw [ha] at e; simp only [o1] at e
      refine ObR.ofO (C := C) (s := Instr.extract (act.eval x) i) e fun r ho => ?_
      have hb := hv _ (by simp [Op.operands, Call.operands, *]) _ ha
      unfold aExtract at ho
      split at ho
      · generalize hev : act.eval x = v at hb
        cases hb with
        | tup hcs =>
          obtain ⟨y, hy, hr⟩ := hcs.get i r ho
          have hy' : (⟨_⟩ : Array Value)[i]? = some y := (List.getElem?_toArray ..).trans hy
          exact ⟨y, by simp only [Instr.extract, hy']; rfl, hr⟩
      · cases ho
  case lookup t x k ok =>
    cases ha : s.opd C x with
    | none => rw [ha] at e; cases e
    | some v =>
      cases hx : s.opd C k with
      | none => rw [ha, hx] at e; cases e
      | some u => rw [ha, hx] at e; simp only [o2] at e; exact ObR.ofO (C := C) (s := Instr.lookup t (act.eval x) (act.eval k) ok) e fun r ho => aLookup_run H (hv _ (by simp [Op.operands, Call.operands, *]) _ ha) (hv _ (by simp [Op.operands, Call.operands, *]) _ hx) ho
  case convert src dst x =>
    cases ha : s.opd C x with
    | none => rw [ha] at e; cases e
    | some v =>
      rw [ha] at e
      simp only [oConvert, aConvert, hob, cond_true] at e
      cases hv2 : aConvInt C src dst v with
      | none => rw [hv2] at e; cases e
      | some u => rw [hv2] at e; cases e; exact ObR.pureV (C := C) (s := convert src dst (act.eval x)) (aConvInt_run (C := C) (w := w) (hv _ (by simp [Op.operands, Call.operands, *]) _ ha) hv2)
  case call k =>
    cases hargs : opds C s k.args.toList with
    | none => rw [hargs] at e; cases e
    | some args =>
      rw [hargs] at e
      have hA := opds_run (fun x hx => hv x (by simp only [Op.operands, Call.operands, Array.toList_append, List.mem_append]; exact .inr hx)) hargs
      simp only [oCall] at e
      split at e
      · rename_i b hcal
        rw [hcal] at hob
        have := aBuiltin_obs H (b := b) (by cases b <;> simp at hob <;> simp) (ty := type) (consts := k.args.map fun | .const _ => true | _ => false) hA e
        simp only [execOp, resolve, hcal]
        rw [map_mk k.args act.eval]
        exact this
      · rename_i f hcal
        rw [hcal] at hob
        cases hob
      · cases e

/-- What an operation that lays a row comes to, at whatever memory. -/
theorem al_run {s : St} {o : Oper} (hal : isAl o = true) {n : ANext} {h' : Hp} (e : aOp C s o = some (n, h')) :
    ∃ elem cells mk, n = .val (mk s.hp.next) ∧ h' = s.hp.row elem cells ∧ (∀ k : Hp, aOp C { s with hp := k } o = some (.val (mk k.next), k.row elem cells)) ∧
      ∀ (c : Ctx) (act : Act) (w : World), OV C c s act o.op.operands.toList → RowN C.P c (execOp act.eval o) w elem cells mk := by
  obtain ⟨dst, op, type, pos, after, guard⟩ := o
  unfold aOp at e
  unfold isAl at hal
  rw [Bool.and_eq_true] at hal
  have hal2 := hal.2
  unfold aOp
  cases op <;> simp only at e hal2 ⊢ <;> try (first | (cases e; done) | (cases hal2; done))
  case alloc t =>
    cases hz : zeroB C.P t with
    | none => rw [hz] at e; cases e
    | some z =>
      rw [hz] at e
      simp only [newBox] at e ⊢
      split at e
      · rename_i h1
        cases e
        exact ⟨t, z.cells, fun r => .ptr r 0, rfl, rfl, fun k => by rw [if_pos h1], fun c act w hv => (alloc_row hz h1).next⟩
      · cases e
  case box t x =>
    cases hz : s.opd C x with
    | none => rw [hz] at e; cases e
    | some z =>
      rw [hz] at e
      simp only [newBox] at e
      split at e
      · rename_i h1
        cases e
        refine ⟨t, z.cells, fun r => .ptr r 0, rfl, rfl, fun k => ?_, fun c act w hv => (box_row (hv _ (by simp [Op.operands]) _ hz) h1).next⟩
        rw [show ({ s with hp := k } : St).opd C x = s.opd C x from rfl, hz]
        simp only [newBox, if_pos h1]
      · cases e
  case buildSlice t len ps =>
    cases hp : parts C s ps.toList with
    | none => rw [hp] at e; cases e
    | some vs =>
      rw [hp] at e
      cases hb : aBuildSlice C.P s.hp t len vs with
      | none => simp only [oBuildSlice, hb] at e; cases e
      | some q =>
        obtain ⟨a, h2⟩ := q
        simp only [oBuildSlice, hb, ANext.ofP] at e
        cases e
        obtain ⟨elem, cells, mk, rfl, rfl, hk, hr⟩ := aBuildSlice_row hb
        refine ⟨elem, cells, mk, rfl, rfl, fun k => ?_, fun c act w hv => ?_⟩
        · rw [parts_hp, hp]
          simp only [oBuildSlice, hk, ANext.ofP]
        · simp only [execOp]
          rw [map_mk]
          exact (hr c _ w (parts_run (fun x hx => hv x (by simpa [Op.operands] using hx)) hp)).next
  case makeSlice t l k =>
    cases ha : s.opd C l with
    | none => rw [ha] at e; cases e
    | some v =>
      cases hx : s.opd C k with
      | none => rw [ha, hx] at e; cases e
      | some u =>
        rw [ha, hx] at e; simp only [oMakeSlice] at e
        cases hb : aMakeSlice C.P s.hp t v u with
        | none => rw [hb] at e; cases e
        | some q =>
          obtain ⟨a, h2⟩ := q
          rw [hb] at e
          simp only [ANext.ofP] at e
          cases e
          obtain ⟨elem, cells, mk, rfl, rfl, hk, hr⟩ := aMakeSlice_row hb
          refine ⟨elem, cells, mk, rfl, rfl, fun g => ?_, fun c act w hv => ?_⟩
          · rw [show ({ s with hp := g } : St).opd C l = s.opd C l from rfl, show ({ s with hp := g } : St).opd C k = s.opd C k from rfl, ha, hx]
            simp only [oMakeSlice, hk, ANext.ofP]
          · simp only [execOp]
            exact (hr c _ _ w (hv _ (by simp [Op.operands]) _ ha) (hv _ (by simp [Op.operands]) _ hx)).next
end
end Go.Ev
