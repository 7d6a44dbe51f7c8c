/-
  The evaluator's operations, and the machine's.
-/
import Derived.Test.YtjggeombkbianaaEvY
set_option linter.unusedSimpArgs false
set_option linter.unusedVariables false
set_option linter.unusedSectionVars false
namespace Go.Ev
open Go Go.RowKit

/-- The package-level variables that the evaluator may read. -/
def GR (C : Cfg) (c : Ctx) : Prop := ∀ g r, C.glob g = some r → ∃ lim, c r = some ⟨g, 0, lim⟩
theorem GR.mono {C : Cfg} {c d : Ctx} (h : GR C c) (hcd : Ctx.le c d) : GR C d := fun g r e => let ⟨lim, hl⟩ := h g r e; ⟨lim, hcd _ _ hl⟩

/-- What an operation comes to. -/
noncomputable def OpR (P : Program) (B : Kp) (w0 : World) (c : Ctx) (s : Sem Next) (w : World) : ANext → Hp → Prop
  | .val a, h' => ∃ c' w' u, s.run P w = .ok (.value u) w' ∧ Ctx.le c c' ∧ VR c' a u ∧ HR B w0 c' h' w'
  | .skip, h' => ∃ c' w', s.run P w = .ok .skip w' ∧ Ctx.le c c' ∧ HR B w0 c' h' w'
  | .enter f args, h' => ∃ args', VRs c args args' ∧ s.run P w = (callFunc f ⟨args'⟩).run P w ∧ HR B w0 c h' w
  | .yld l args, h' => ∃ L args', c l = some L ∧ VRs c args args' ∧ s.run P w = (Instr.yield L.blk ⟨args'⟩).run P w ∧ HR B w0 c h' w

section
variable {C : Cfg} {B : Kp} {w0 w : World} {c : Ctx} {h : Hp}

theorem OpR.pureV (H : HR B w0 c h w) {s : Sem Value} {a : AV} (e : ∃ u, s.run C.P w = .ok u w ∧ VR c a u) : OpR C.P B w0 c (do pure (.value (← s))) w (.val a) h := by
  obtain ⟨u, hr, hv⟩ := e
  exact ⟨c, w, u, by rw [Sem.run_bind, hr]; rfl, Ctx.le_refl c, hv, H⟩
theorem OpR.ofVal {s : Sem Value} {a : AV} {h' : Hp} (e : Val C.P B w0 c s w a h') : OpR C.P B w0 c (do pure (.value (← s))) w (.val a) h' := by
  obtain ⟨c', w', u, hr, hle, hv, H⟩ := e
  exact ⟨c', w', u, by rw [Sem.run_bind, hr]; rfl, hle, hv, H⟩
theorem OpR.ofO (H : HR B w0 c h w) {s : Sem Value} {o : Option AV} {n : ANext} {h' : Hp} (e : ANext.ofO o h = some (n, h')) (hs : ∀ a, o = some a → ∃ u, s.run C.P w = .ok u w ∧ VR c a u) :
    OpR C.P B w0 c (do pure (.value (← s))) w n h' := by
  cases o with
  | none => cases e
  | some a => cases e; exact OpR.pureV H (hs a rfl)
theorem OpR.ofP {s : Sem Value} {o : Option (AV × Hp)} {n : ANext} {h' : Hp} (e : ANext.ofP o = some (n, h')) (hs : ∀ a h2, o = some (a, h2) → Val C.P B w0 c s w a h2) :
    OpR C.P B w0 c (do pure (.value (← s))) w n h' := by
  cases o with
  | none => cases e
  | some p => cases e; exact OpR.ofVal (hs _ _ rfl)

theorem aBuiltin_run (H : HR B w0 c h w) {b : Builtin} {ts : Array TypeId} {ty : TypeId} {consts : Array Bool} {args : List AV} {args' : List Value} (ha : VRs c args args') {n : ANext} {h' : Hp}
    (e : aBuiltin C h b ts args = some (n, h')) : OpR C.P B w0 c (builtin b ts ty consts ⟨args'⟩) w n h' := by
  unfold aBuiltin at e
  split at e
  · cases ha with
    | cons h1 t => cases t with
      | cons h2 t => cases t; exact OpR.ofP e fun a h2' ho => aAppend_run H h1 h2 ho
  · cases ha with
    | cons h1 t => cases t with
      | cons h2 t => cases t; exact OpR.ofP e fun a h2' ho => aCopy_run H h1 h2 ho
  · cases ha with
    | cons h1 t => cases t; exact OpR.ofP e fun a h2' ho => aClear_run H h1 ho
  · cases ha with
    | cons h1 t => cases t; exact OpR.ofO H e fun a ho => aLen_run H h1 ho
  · cases ha with
    | cons h1 t => cases t; exact OpR.ofO H e fun a ho => aCap_run h1 ho w
  · split at e
    · rename_i t0 ht0
      cases ha with
      | cons h1 t => cases t with
        | cons h2 t => cases t; exact OpR.ofP e fun a h2' ho => aUnsafeString_run H h1 h2 (t0 := t0) (by simpa using ht0) ho
    · cases e
  · cases e
    cases ha with
    | cons h1 t =>
      cases t
      cases h1 with
      | slice cap' hL h1 h2 h3 h4 =>
        exact OpR.pureV H ⟨_, Lib.run_unsafeSliceData_row w ts ty _ _ cap' (by omega), .ptr _ hL⟩
  · cases e
    cases ha with
    | cons h1 t => cases t; cases h1; exact OpR.pureV H ⟨_, Lib.run_unsafeSliceData_nil w ts ty _ _, .nilp⟩
  · cases ha with
    | cons h1 t => exact OpR.ofO H e fun a ho => minmax_run true h1 t ho w
  · cases ha with
    | cons h1 t => exact OpR.ofO H e fun a ho => minmax_run false h1 t ho w
  · cases e

/-! Operands. -/
/-- What the operands stand for. -/
def OV (C : Cfg) (c : Ctx) (s : St) (act : Act) (xs : List Operand) : Prop := ∀ x ∈ xs, ∀ a, s.opd C x = some a → VR c a (act.eval x)
section
variable {s : St} {act : Act}
theorem opd_run (G : GR C c) {x : Operand} {a : AV} (T : ∀ t, x = .tmp t → VR c (tmf s.tm t) (act.tmps.getD t Go.undef)) (e : s.opd C x = some a) : VR c a (act.eval x) := by
  cases x with
  | tmp t => cases e; exact T t rfl
  | const v => exact ofV_VR c v a e
  | global g =>
    simp only [St.opd, Option.map_eq_some_iff] at e
    obtain ⟨r, hr, rfl⟩ := e
    obtain ⟨lim, hl⟩ := G g r hr
    exact VR.ptr 0 hl
  | func f => cases e; exact .fn f .nil .nil
theorem OV.of (G : GR C c) {xs : List Operand} (T : ∀ t, Operand.tmp t ∈ xs → VR c (tmf s.tm t) (act.tmps.getD t Go.undef)) : OV C c s act xs :=
  fun x hx _ e => opd_run G (fun t ht => T t (ht ▸ hx)) e
theorem opds_run : ∀ {xs : List Operand} {as : List AV}, OV C c s act xs → opds C s xs = some as → VRs c as (xs.map act.eval)
  | [], as, _, e => by cases e; exact .nil
  | x :: xs, as, hv, e => by
    simp only [opds] at e
    split at e
    · rename_i a as' ha has
      cases e
      exact .cons (hv x (by simp) _ ha) (opds_run (fun y hy => hv y (by simp [hy])) has)
    · cases e
theorem parts_run : ∀ {xs : List (Nat × Operand)} {as : List (Nat × AV)}, OV C c s act (xs.map (·.2)) → parts C s xs = some as → PRs c as (xs.map fun (i, x) => (i, act.eval x))
  | [], as, _, e => by cases e; exact .nil
  | (i, x) :: xs, as, hv, e => by
    simp only [parts] at e
    split at e
    · rename_i a as' ha has
      cases e
      exact .cons i (hv x (by simp) _ ha) (parts_run (fun y hy => hv y (by simp only [List.map_cons, List.mem_cons]; exact .inr hy)) has)
    · cases e
theorem opt_run {x : Option Operand} {a : Option AV} (hv : OV C c s act x.toList) (e : opt C s x = some a) : BRs c a (x.map act.eval) := by
  cases x with
  | none => cases e; exact .none
  | some x =>
    simp only [opt] at e
    split at e
    · rename_i a ha; cases e; exact .some (hv x (by simp) _ ha)
    · cases e
end
theorem map_mk {α β : Type} (xs : Array α) (f : α → β) : xs.map f = ⟨xs.toList.map f⟩ := by
  apply Array.ext'; simp

theorem mapSet_case {s : St} {act : Act} {t : TypeId} {x k y : Operand} (H : HR B w0 c s.hp w) (hv : ∀ z ∈ [x, k, y], ∀ a, s.opd C z = some a → VR c a (act.eval z)) {n : ANext} {h' : Hp}
    (e : oMapSet C s t (s.opd C x) (s.opd C k) (s.opd C y) = some (n, h')) : OpR C.P B w0 c (do Instr.mapUpdate t (act.eval x) (act.eval k) (act.eval y); pure .skip) w n h' := by
  cases ha : s.opd C x with
  | none => rw [ha] at e; cases e
  | some a =>
    cases hb : s.opd C k with
    | none => rw [ha, hb] at e; cases e
    | some b =>
      cases hd : s.opd C y with
      | none => rw [ha, hb, hd] at e; cases e
      | some d =>
        rw [ha, hb, hd] at e
        simp only [oMapSet] at e
        cases hs : aMapSet C s.hp t a b d with
        | none => rw [hs] at e; cases e
        | some h2 =>
          rw [hs] at e; cases e
          obtain ⟨w', hrun, H'⟩ := aMapSet_run H (hv x (by simp) _ ha) (hv k (by simp) _ hb) (hv y (by simp) _ hd) hs
          exact ⟨c, w', by simp only [Sem.run_bind, hrun]; rfl, Ctx.le_refl c, H'⟩

set_option maxHeartbeats 800000 in
theorem aOp_run {s : St} {act : Act} {o : Oper} (hv : OV C c s act o.op.operands.toList) (H : HR B w0 c s.hp w) {n : ANext} {h' : Hp} (e : aOp C s o = some (n, h')) :
    OpR C.P B w0 c (execOp act.eval o) w n h' := by
  obtain ⟨dst, op, type, pos, after, guard⟩ := o
  unfold aOp at e
  cases op <;> simp only at e <;> try (cases e; done)
  case move x => exact OpR.ofO (C := C) (s := pure (act.eval x)) H e fun a ho => ⟨_, rfl, hv _ (by simp [Op.operands, Call.operands, *]) _ ho⟩
  case assign x => exact OpR.ofO (C := C) (s := pure (act.eval x)) H e fun a ho => ⟨_, rfl, hv _ (by simp [Op.operands, Call.operands, *]) _ ho⟩
  case pick x a b =>
    unfold oPick at e
    split at e
    · rename_i hc
      have hb := hv _ (by simp [Op.operands, Call.operands, *]) _ hc
      generalize hev : act.eval x = v at hb
      cases hb
      cases ha : s.opd C a with
      | none => rw [ha] at e; cases e
      | some r =>
        rw [ha] at e; cases e
        exact ⟨c, w, act.eval a, by simp only [execOp, hev]; rfl, Ctx.le_refl c, hv _ (by simp [Op.operands, Call.operands, *]) _ ha, H⟩
    · rename_i hc
      have hb := hv _ (by simp [Op.operands, Call.operands, *]) _ hc
      generalize hev : act.eval x = v at hb
      cases hb
      cases ha : s.opd C b with
      | none => rw [ha] at e; cases e
      | some r =>
        rw [ha] at e; cases e
        exact ⟨c, w, act.eval b, by simp only [execOp, hev]; rfl, Ctx.le_refl c, hv _ (by simp [Op.operands, Call.operands, *]) _ ha, H⟩
    · cases e
  case alloc t =>
    cases hz : zeroB C.P t with
    | none => rw [hz] at e; cases e
    | some z =>
      rw [hz] at e
      simp only [newBox] at e
      split at e
      · rename_i h1; cases e; exact OpR.ofVal (alloc_run H hz h1)
      · cases e
  case box t x =>
    cases hz : s.opd C x with
    | none => rw [hz] at e; cases e
    | some z =>
      rw [hz] at e
      simp only [newBox] at e
      split at e
      · rename_i h1; cases e; exact OpR.ofVal (box_run H (hv _ (by simp [Op.operands, Call.operands, *]) _ hz) h1)
      · cases e
  case build t ps =>
    cases hp : parts C s ps.toList with
    | none => rw [hp] at e; cases e
    | some vs =>
      rw [hp] at e; simp only [oBuild] at e
      refine OpR.ofO (C := C) (s := Instr.build t (ps.map fun (i, x) => (i, act.eval x))) H e fun a ho => ?_
      rw [map_mk]
      exact aBuild_run (parts_run (fun x hx => hv x (by simpa [Op.operands] using hx)) hp) ho w
  case buildSlice t len ps =>
    cases hp : parts C s ps.toList with
    | none => rw [hp] at e; cases e
    | some vs =>
      rw [hp] at e
      cases hb : aBuildSlice C.P s.hp t len vs with
      | none => simp only [oBuildSlice, hb] at e; cases e
      | some q =>
        obtain ⟨a, h2⟩ := q
        simp only [oBuildSlice, hb, ANext.ofP] at e
        cases e
        have key := aBuildSlice_run H (parts_run (fun x hx => hv x (by simpa [Op.operands] using hx)) hp) hb
        simp only [execOp]
        rw [map_mk]
        exact OpR.ofVal (C := C) key
  case load t a =>
    cases ha : s.opd C a with
    | none => rw [ha] at e; cases e
    | some v => rw [ha] at e; simp only [o1] at e; exact OpR.ofO (C := C) (s := Instr.loadAt t (act.eval a)) H e fun r ho => aLoad_run H (hv _ (by simp [Op.operands, Call.operands, *]) _ ha) ho
  case store t a x =>
    cases ha : s.opd C a with
    | none => rw [ha] at e; cases e
    | some v =>
      cases hx : s.opd C x with
      | none => rw [ha, hx] at e; cases e
      | some u =>
        rw [ha, hx] at e
        simp only [oStore] at e
        cases hs : aStore C.P s.hp t v u with
        | none => rw [hs] at e; cases e
        | some h2 =>
          rw [hs] at e; cases e
          obtain ⟨w', hrun, H'⟩ := aStore_run (P := C.P) H (hv _ (by simp [Op.operands, Call.operands, *]) _ ha) (hv _ (by simp [Op.operands, Call.operands, *]) _ hx) hs
          exact ⟨c, w', by simp only [execOp, Sem.run_bind, hrun]; rfl, Ctx.le_refl c, H'⟩
  case nilCheck x =>
    unfold oNil at e
    split at e
    · rename_i r off hc
      have hb := hv _ (by simp [Op.operands, Call.operands, *]) _ hc
      generalize hev : act.eval x = v at hb
      cases e
      cases hb with
      | ptr off hL => exact ⟨c, w, _, by simp only [execOp, hev]; rfl, Ctx.le_refl c, .ptr off hL, H⟩
    · rename_i f a b hc
      have hb := hv _ (by simp [Op.operands, Call.operands, *]) _ hc
      generalize hev : act.eval x = v at hb
      cases e
      cases hb with
      | fn f ha hb => exact ⟨c, w, _, by simp only [execOp, hev]; rfl, Ctx.le_refl c, .fn f ha hb, H⟩
    · rename_i l hc
      have hb := hv _ (by simp [Op.operands, Call.operands, *]) _ hc
      generalize hev : act.eval x = v at hb
      cases e
      cases hb with
      | yld hL => exact ⟨c, w, _, by simp only [execOp, hev]; rfl, Ctx.le_refl c, .yld hL, H⟩
    · cases e
  case binOp bop t x y pos =>
    cases ha : s.opd C x with
    | none => rw [ha] at e; cases e
    | some v =>
      cases hx : s.opd C y with
      | none => rw [ha, hx] at e; cases e
      | some u =>
        rw [ha, hx] at e; simp only [o2] at e
        exact OpR.ofO (C := C) (s := do eqGuard bop t x y (act.eval x) (act.eval y); Go.binOp bop t (act.eval x) (act.eval y)) H e fun r ho => aBinAll_run (hv _ (by simp [Op.operands, Call.operands, *]) _ ha) (hv _ (by simp [Op.operands, Call.operands, *]) _ hx) ho x y w
  case unOp uop t x =>
    cases ha : s.opd C x with
    | none => rw [ha] at e; cases e
    | some v =>
      rw [ha] at e; simp only [o1] at e
      refine OpR.ofO (C := C) (s := Op.unary uop (act.eval x)) H e fun r ho => ?_
      have hb := hv _ (by simp [Op.operands, Call.operands, *]) _ ha
      unfold aUn at ho
      split at ho
      · generalize hev : act.eval x = v at hb
        cases hb; exact ofIntV_run ho c w
      · generalize hev : act.eval x = v at hb
        cases hb; exact ofIntV_run ho c w
      · cases ho
  case convert src dst x =>
    cases ha : s.opd C x with
    | none => rw [ha] at e; cases e
    | some v => rw [ha] at e; simp only [oConvert] at e; exact OpR.ofP (C := C) (s := convert src dst (act.eval x)) e fun r h2 ho => aConvert_run H (hv _ (by simp [Op.operands, Call.operands, *]) _ ha) ho
  case makeFunc fn first captured =>
    cases hf : opds C s first.toList with
    | none => rw [hf] at e; cases fn <;> cases e
    | some a =>
      cases hc : opds C s captured.toList with
      | none => rw [hf, hc] at e; cases fn <;> cases e
      | some b =>
        rw [hf, hc] at e
        cases fn <;> simp only [oMakeFunc] at e <;> try (cases e; done)
        rename_i f
        cases e
        refine ⟨c, w, .func (.func f) (first.map act.eval) (captured.map act.eval), rfl, Ctx.le_refl c, ?_, H⟩
        rw [map_mk, map_mk]
        exact .fn f (opds_run (fun x hx => hv x (by simp only [Op.operands, Array.toList_append, List.mem_append]; exact .inl hx)) hf) (opds_run (fun x hx => hv x (by simp only [Op.operands, Array.toList_append, List.mem_append]; exact .inr hx)) hc)
  case makeSlice t l k =>
    cases ha : s.opd C l with
    | none => rw [ha] at e; cases e
    | some v =>
      cases hx : s.opd C k with
      | none => rw [ha, hx] at e; cases e
      | some u =>
        rw [ha, hx] at e; simp only [oMakeSlice] at e
        exact OpR.ofP (C := C) (s := Instr.makeSlice t (act.eval l) (act.eval k)) e fun r h2 ho => aMakeSlice_run H (hv _ (by simp [Op.operands, Call.operands, *]) _ ha) (hv _ (by simp [Op.operands, Call.operands, *]) _ hx) ho
  case slice t x lo hi mx =>
    cases ha : s.opd C x with
    | none => rw [ha] at e; cases e
    | some v =>
      cases hl : opt C s lo with
      | none => rw [ha, hl] at e; cases e
      | some l =>
        cases hh : opt C s hi with
        | none => rw [ha, hl, hh] at e; cases e
        | some k =>
          cases hm : opt C s mx with
          | none => rw [ha, hl, hh, hm] at e; cases e
          | some m =>
            rw [ha, hl, hh, hm] at e; simp only [oSlice] at e
            exact OpR.ofO (C := C) (s := Instr.sliceAt t (act.eval x) (lo.map act.eval) (hi.map act.eval) (mx.map act.eval)) H e fun r ho => aSlice_run H (hv _ (by simp [Op.operands, Call.operands, *]) _ ha) (opt_run (fun x hx => hv x (by simp only [Op.operands, Array.toList_append, List.mem_append, Option.toList_toArray]; simp [hx])) hl) (opt_run (fun x hx => hv x (by simp only [Op.operands, Array.toList_append, List.mem_append, Option.toList_toArray]; simp [hx])) hh) (opt_run (fun x hx => hv x (by simp only [Op.operands, Array.toList_append, List.mem_append, Option.toList_toArray]; simp [hx])) hm) ho
  case fieldAddr t x f =>
    cases ha : s.opd C x with
    | none => rw [ha] at e; cases e
    | some v => rw [ha] at e; simp only [o1] at e; exact OpR.ofO (C := C) (s := Instr.fieldAt t (act.eval x) f) H e fun r ho => aFieldAddr_run (hv _ (by simp [Op.operands, Call.operands, *]) _ ha) ho w
  case field t x f =>
    cases ha : s.opd C x with
    | none => rw [ha] at e; cases e
    | some v => rw [ha] at e; simp only [o1] at e; exact OpR.ofO (C := C) (s := Instr.field t (act.eval x) f) H e fun r ho => aField_run (hv _ (by simp [Op.operands, Call.operands, *]) _ ha) ho w
  case indexAddr t x i =>
    cases ha : s.opd C x with
    | none => rw [ha] at e; cases e
    | some v =>
      cases hx : s.opd C i with
      | none => rw [ha, hx] at e; cases e
      | some u => rw [ha, hx] at e; simp only [o2] at e; exact OpR.ofO (C := C) (s := Instr.indexAt t (act.eval x) (act.eval i)) H e fun r ho => aIndexAddr_run (hv _ (by simp [Op.operands, Call.operands, *]) _ ha) (hv _ (by simp [Op.operands, Call.operands, *]) _ hx) ho w
  case index t x i =>
    cases ha : s.opd C x with
    | none => rw [ha] at e; cases e
    | some v =>
      cases hx : s.opd C i with
      | none => rw [ha, hx] at e; cases e
      | some u => rw [ha, hx] at e; simp only [o2] at e; exact OpR.ofO (C := C) (s := Instr.index t (act.eval x) (act.eval i)) H e fun r ho => aIndex_run (hv _ (by simp [Op.operands, Call.operands, *]) _ ha) (hv _ (by simp [Op.operands, Call.operands, *]) _ hx) ho w
  case extract x i =>
    cases ha : s.opd C x with
    | none => rw [ha] at e; cases e
    | some v =>
      rw [ha] at e; simp only [o1] at e
      refine OpR.ofO (C := C) (s := Instr.extract (act.eval x) i) H e fun r ho => ?_
      have hb := hv _ (by simp [Op.operands, Call.operands, *]) _ ha
      unfold aExtract at ho
      split at ho
      · generalize hev : act.eval x = v at hb
        cases hb with
        | tup hcs =>
          obtain ⟨y, hy, hr⟩ := hcs.get i r ho
          have hy' : (⟨_⟩ : Array Value)[i]? = some y := (List.getElem?_toArray ..).trans hy
          exact ⟨y, by simp only [Instr.extract, hy']; rfl, hr⟩
      · cases ho
  case makeMap t r =>
    cases hr : opt C s r with
    | none => rw [hr] at e; cases e
    | some ro =>
      rw [hr] at e
      unfold oMakeMap at e
      have hbs := opt_run (fun x hx => hv x (by simp only [Op.operands, Option.toList_toArray]; simpa using hx)) hr
      split at e
      · rename_i he
        cases he; cases e
        cases r with
        | some x =>
          simp only [opt] at hr
          split at hr <;> cases hr
        | none =>
          obtain ⟨c', w', hrun, hle, hvr, H'⟩ := newMap_run (C := C) H
          refine ⟨c', w', _, ?_, hle, hvr, H'⟩
          simp only [execOp, Option.map_none, Instr.makeMap, Sem.run_bind, hrun, Result.andThen_ok, Sem.run_pure]
      · rename_i q1 q2 he
        cases he
        split at e
        · rename_i kt et hu
          cases e
          cases r with
          | none => cases hr
          | some x =>
            cases hbs with
            | some hvx =>
              obtain ⟨c', w', hrun, hle, hvr, H'⟩ := newMap_run (C := C) H
              refine ⟨c', w', _, ?_, hle, hvr, H'⟩
              generalize hev : act.eval x = v at hvx
              cases hvx
              simp only [execOp, Option.map_some, hev, Instr.makeMap, Sem.run_bind, run_underlying hu, Result.andThen_ok, asInt, asIntOf, Sem.run_pure, hrun]
        · cases e
      · cases e
  case lookup t x k ok =>
    cases ha : s.opd C x with
    | none => rw [ha] at e; cases e
    | some v =>
      cases hx : s.opd C k with
      | none => rw [ha, hx] at e; cases e
      | some u => rw [ha, hx] at e; simp only [o2] at e; exact OpR.ofO (C := C) (s := Instr.lookup t (act.eval x) (act.eval k) ok) H e fun r ho => aLookup_run H (hv _ (by simp [Op.operands, Call.operands, *]) _ ha) (hv _ (by simp [Op.operands, Call.operands, *]) _ hx) ho
  case mapUpdate t x k y => exact mapSet_case H (fun z hz => hv z (by simpa [Op.operands] using hz)) e
  case insert t x k y => exact mapSet_case H (fun z hz => hv z (by simpa [Op.operands] using hz)) e
  case call k =>
    cases hargs : opds C s k.args.toList with
    | none => rw [hargs] at e; cases e
    | some args =>
      rw [hargs] at e
      have hA := opds_run (fun x hx => hv x (by simp only [Op.operands, Call.operands, Array.toList_append, List.mem_append]; exact .inr hx)) hargs
      simp only [oCall] at e
      split at e
      · rename_i b hcal
        have := aBuiltin_run H (ty := type) (consts := k.args.map fun | .const _ => true | _ => false) hA e
        simp only [execOp, resolve, hcal]
        rw [map_mk k.args act.eval]
        exact this
      · rename_i f hcal
        simp only [execOp, resolve, hcal]
        rw [map_mk k.args act.eval]
        unfold oEnter at e
        split at e
        · rename_i g first captured hf
          have hb := hv _ (by simp [Op.operands, Call.operands, *]) _ hf
          generalize hev : act.eval f = v at hb
          cases hb with
          | fn g ha hcap =>
            cases e
            refine ⟨_, (ha.append hA).append hcap, ?_, H⟩
            simp only [Deferred.ofValue, Sem.run_bind, Sem.run_pure, Result.andThen, invoke]
            simp
        · rename_i l hf
          have hb := hv _ (by simp [Op.operands, Call.operands, *]) _ hf
          generalize hev : act.eval f = v at hb
          cases hb with
          | yld hL =>
            cases e
            refine ⟨_, _, hL, hA, ?_, H⟩
            simp only [Deferred.ofValue, Sem.run_bind, Sem.run_pure, Result.andThen, invoke]
            simp
        · cases e
      · cases e
end
end Go.Ev
