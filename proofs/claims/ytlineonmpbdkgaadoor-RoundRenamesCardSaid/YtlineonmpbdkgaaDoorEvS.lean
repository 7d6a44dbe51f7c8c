/-
  The evaluator's calls and rounds are the machine's.
-/
import Derived.Test.YtlineonmpbdkgaaDoorEvQ
namespace Go.Ev
open Go Go.RowKit

/-- In which round's frame the code stands. -/
noncomputable def RoR (c : Ctx) : Option Nat → Option Nat → Prop
  | none, none => True
  | some l, some L => ∃ loc, c l = some loc ∧ loc.blk = L
  | _, _ => False
theorem RoR.mono {c d : Ctx} (hcd : Ctx.le c d) : ∀ {a b : Option Nat}, RoR c a b → RoR d a b
  | none, none, _ => trivial
  | some _, some _, ⟨loc, h, e⟩ => ⟨loc, hcd _ _ h, e⟩
  | none, some _, h => h.elim
  | some _, none, h => h.elim
theorem DR.append {c : Ctx} : ∀ {a : List Nat} {a' : List Deferred}, DR c a a' → ∀ {b : List Nat} {b' : List Deferred}, DR c b b' → DR c (a ++ b) (a' ++ b')
  | _, _, .nil, _, _, h => h
  | _, _, .cons h t, _, _, k => .cons h (t.append k)

section
variable {C : Cfg} {R : Rec} {B : Kp} {w0 : World}

/-- A loop's record is laid. -/
theorem enterL_run {c : Ctx} {h h1 : Hp} {w : World} (H : HR B w0 c h w) {ro roC : Option Nat} (RR : RoR c ro roC) {d : Nat} {mk : List Nat} (e : enterL ro h = some (d, h1, mk)) {tm : Tr AV} {n : Nat} {tmps : Array Value} (T : TR c (tmf tm) tmps n)
    (fn : FuncId) (ps : Array Tmp) (assign body : Code) : ∃ blk mark w1 c2, (Instr.enterLoop fn tmps ps assign body roC).run C.P w = .ok (blk, mark) w1 ∧ Ctx.le c c2 ∧ c2 h1.next = some ⟨blk, 0, 0⟩ ∧ DR c2 mk mark ∧
      HR B w0 c2 (h1.new (.loop .ready none tm n ps.toList assign body d)) w1 := by
  unfold enterL at e
  cases ro with
  | none =>
    cases roC with
    | some L => exact RR.elim
    | none =>
      simp only [Option.some.injEq, Prod.mk.injEq] at e
      obtain ⟨rfl, rfl, rfl⟩ := e
      have H1 := H.newObj .dfr (.deferred (some [])) (fun _ _ _ _ e => by cases e) ⟨heap_alloc_new _ _, H.new⟩
      have hle1 : Ctx.le c (c.ext h.next ⟨w.heap.size, 0, 0⟩) := Ctx.le_ext (H.fresh _ (Nat.le_refl _))
      have hd : (c.ext h.next ⟨w.heap.size, 0, 0⟩) h.next = some ⟨w.heap.size, 0, 0⟩ := Ctx.ext_same _ _ _
      have hle2 : Ctx.le (c.ext h.next ⟨w.heap.size, 0, 0⟩) ((c.ext h.next ⟨w.heap.size, 0, 0⟩).ext (h.new .dfr).next ⟨(w.alloc (.deferred (some []))).heap.size, 0, 0⟩) := Ctx.le_ext (H1.fresh _ (Nat.le_refl _))
      have H2 := H1.newObj (.loop .ready none tm n ps.toList assign body h.next) (.loop { state := .ready, pending := none, fn, tmps, params := ps, assign, body, defers := w.heap.size })
        (fun _ _ _ _ e => by cases e) ⟨_, ⟨w.heap.size, 0, 0⟩, heap_alloc_new _ _, H1.new, rfl, rfl, T.mono (Ctx.le_trans hle1 hle2), rfl, rfl, rfl, hle2 _ _ hd, rfl⟩
      refine ⟨_, _, _, _, run_enterLoop_outer fn tmps ps assign body, Ctx.le_trans hle1 hle2, ?_, .cons (L := ⟨w.heap.size, 0, 0⟩) (hle2 _ _ hd) .nil, H2⟩
      rw [Ctx.ext_same]
      simp
  | some l =>
    cases roC with
    | none => exact RR.elim
    | some L =>
      obtain ⟨loc, hloc, rfl⟩ := RR
      simp only at e
      split at e
      · rename_i st pend tm' n' ps' as' bd' d' hl
        simp only [Option.some.injEq, Prod.mk.injEq] at e
        obtain ⟨rfl, rfl, rfl⟩ := e
        obtain ⟨L', hL', r, Ld, hb, hB, h1, h2, h3, h4, h5, h6, h7, h8⟩ := H.obj _ _ hl
        rw [hloc] at hL'; cases hL'
        have hle2 : Ctx.le c (c.ext h.next ⟨w.heap.size, 0, 0⟩) := Ctx.le_ext (H.fresh _ (Nat.le_refl _))
        have H2 := H.newObj (.loop .ready none tm n ps.toList assign body d') (.loop { state := .ready, pending := none, fn, tmps, params := ps, assign, body, defers := r.defers })
          (fun _ _ _ _ e => by cases e) ⟨_, Ld, heap_alloc_new _ _, H.new, rfl, rfl, T.mono hle2, rfl, rfl, rfl, hle2 _ _ h7, h8⟩
        refine ⟨w.heap.size, [], _, _, ?_, hle2, Ctx.ext_same _ _ _, .nil, H2⟩
        simp only [Instr.enterLoop, Sem.run_bind, run_getLoop hb, Result.andThen, Sem.run_pure, run_newObj_alloc]
      · cases e

theorem loop_end {c : Ctx} {h : Hp} {w : World} (H : HR B w0 c h w) {l : Nat} {L : Loc} (hL : c l = some L) {st : LoopState} {pend : Option Code} {tm : Tr AV} {n : Nat} {ps : List Tmp} {a b : Code} {d : Nat}
    (hl : h.get l = some (.loop st pend tm n ps a b d)) (hst : st ≠ .busy) : ∃ w', (Instr.endLoop L.blk).run C.P w = .ok pend w' ∧ HR B w0 c (h.put l (.loop .exhausted pend tm n ps a b d)) w' := by
  obtain ⟨L', hL', r, Ld, hb, hB, h1, h2, h3, h4, h5, h6, h7, h8⟩ := H.obj _ _ hl
  rw [hL] at hL'; cases hL'
  refine ⟨_, (run_endLoop hb (by rw [h1]; exact hst)).trans (by rw [h2]), H.putObj hl hL (fun _ _ _ _ e => by cases e) (fun _ _ _ _ e => by cases e) hB rfl ?_⟩
  exact ⟨_, Ld, World.putObj_heap_same (H.lt _ _ hL), hB, rfl, rfl, h3, h4, h5, h6, h7, h8⟩

theorem endL_spec {s s' : St} {l : Nat} {mk : List Nat} {h : Hp} {e : Exit} (hE : endL s l mk h = some (e, s')) : ∃ st pend tm n ps a b d, h.get l = some (.loop st pend tm n ps a b d) ∧ st ≠ .busy ∧
    s' = { s with hp := h.put l (.loop .exhausted pend tm n ps a b d), df := mk ++ s.df } ∧ ((pend = none ∧ e = .normal) ∨ (pend = some .ret ∧ e = .ret) ∨ ∃ id, pend = some (.exit id) ∧ e = .exit id) := by
  unfold endL at hE
  split at hE
  · cases hE
  · rename_i st pend tm n ps a b d hst hl
    refine ⟨st, pend, tm, n, ps, a, b, d, hl, hst, ?_⟩
    split at hE
    · cases hE; exact ⟨rfl, .inl ⟨rfl, rfl⟩⟩
    · cases hE; exact ⟨rfl, .inr (.inl ⟨rfl, rfl⟩)⟩
    · cases hE; exact ⟨rfl, .inr (.inr ⟨_, rfl, rfl⟩)⟩
    · cases hE
  · cases hE

theorem evCode_sound (hm : C.P.follows .mixedOrders = true) (RC : CallOK C R B w0) (RY : YldOK C R B w0) (RE : ExtOK C) (ro roC : Option Nat) (code : Code) : ∀ (c : Ctx) (s : St) (act : Act) (w : World) (e : Exit) (s' : St) (Q : Exit → Act → World → Prop),
    GR C c → RoR c ro roC → SR B w0 c s act w → evCode C R ro code s = some (e, s') → (∀ c' act' w', Ctx.le c c' → SR B w0 c' s' act' w' → Q e act' w') → code.wpIn (fen roC) 0 C.P Q act w := by
  induction code with
  | skip =>
    intro c s act w e s' Q G RR S h hQ
    have h : some (Exit.normal, s) = some (e, s') := h
    cases h
    exact wpIn_skip (hQ c act w (Ctx.le_refl c) S)
  | label l =>
    intro c s act w e s' Q G RR S h hQ
    have h : some (Exit.normal, s) = some (e, s') := h
    cases h
    exact wpIn_label (hQ c act w (Ctx.le_refl c) S)
  | exit id =>
    intro c s act w e s' Q G RR S h hQ
    have h : some (Exit.exit id, s) = some (e, s') := h
    cases h
    exact wpIn_exit (hQ c act w (Ctx.le_refl c) S)
  | ret =>
    intro c s act w e s' Q G RR S h hQ
    have h : some (Exit.ret, s) = some (e, s') := h
    cases h
    exact wpIn_ret (hQ c act w (Ctx.le_refl c) S)
  | scope b ih =>
    intro c s act w e s' Q G RR S h hQ
    have h : none = some (e, s') := h
    cases h
  | goto l =>
    intro c s act w e s' Q G RR S h hQ
    have h : none = some (e, s') := h
    cases h
  | refuse why =>
    intro c s act w e s' Q G RR S h hQ
    have h : none = some (e, s') := h
    cases h
  | region id ops draw =>
    intro c s act w e s' Q G RR S h hQ
    have h : cRegion C R ops.toList draw s = some (e, s') := h
    unfold cRegion at h
    cases draw with
    | true =>
      simp only [cond_true] at h
      cases hd : evDraw C R ops.toList s with
      | none => rw [hd] at h; cases h
      | some s1 =>
        rw [hd] at h
        cases h
        exact draw_sound hm RC RY RE G S hd hQ
    | false =>
      simp only [cond_false] at h
      cases hd : evOps C R ops.toList ops.toList s with
      | none => rw [hd] at h; cases h
      | some s1 =>
        rw [hd] at h
        cases h
        refine wpIn_region ?_
        have := evOps_sound (ro := roC) RC RY RE ops.toList 0 c s s' act w rfl G S hd hQ
        rw [List.range_eq_range']
        rw [Array.length_toList] at this
        exact this
  | seq a b iha ihb =>
    intro c s act w e s' Q G RR S h hQ
    have h : cSeq (evCode C R ro a) (evCode C R ro b) s = some (e, s') := h
    unfold cSeq at h
    refine wpIn_seq ?_
    split at h
    · rename_i s1 h1
      exact iha c s act w .normal s1 _ G RR S h1 fun c1 act1 w1 hle1 S1 => ihb c1 s1 act1 w1 e s' Q (G.mono hle1) (RR.mono hle1) S1 h fun c2 act2 w2 hle2 S2 => hQ c2 act2 w2 (Ctx.le_trans hle1 hle2) S2
    · rename_i hne
      refine iha c s act w e s' _ G RR S h fun c1 act1 w1 hle1 S1 => ?_
      have hq := hQ c1 act1 w1 hle1 S1
      cases e with
      | normal => exact absurd h (hne s')
      | _ => exact hq
  | cond x a b iha ihb =>
    intro c s act w e s' Q G RR S h hQ
    have h : cCond C x (evCode C R ro a) (evCode C R ro b) s = some (e, s') := h
    unfold cCond at h
    split at h
    · rename_i hx
      have hv := opd_run (act := act) G (fun t _ => S.tm.getD t) hx
      generalize hev : act.eval x = v at hv
      cases hv
      exact wpIn_cond_true hev (iha c s act w e s' Q G RR S h hQ)
    · rename_i hx
      have hv := opd_run (act := act) G (fun t _ => S.tm.getD t) hx
      generalize hev : act.eval x = v at hv
      cases hv
      exact wpIn_cond_false hev (ihb c s act w e s' Q G RR S h hQ)
    · cases h
  | block id a iha =>
    intro c s act w e s' Q G RR S h hQ
    have h : cBlock id (evCode C R ro a) s = some (e, s') := h
    unfold cBlock at h
    refine wpIn_block ?_
    split at h
    · rename_i id' s1 h1
      refine iha c s act w (.exit id') s1 _ G RR S h1 fun c1 act1 w1 hle1 S1 => ?_
      show (if id' = id then Q .normal act1 w1 else Q (.exit id') act1 w1)
      cases hb : Nat.beq id' id with
      | true =>
        rw [hb] at h
        cases h
        rw [if_pos (Nat.eq_of_beq_eq_true hb)]
        exact hQ c1 act1 w1 hle1 S1
      | false =>
        rw [hb] at h
        cases h
        rw [if_neg (Nat.ne_of_beq_eq_false hb)]
        exact hQ c1 act1 w1 hle1 S1
    · rename_i hne
      refine iha c s act w e s' _ G RR S h fun c1 act1 w1 hle1 S1 => ?_
      have hq := hQ c1 act1 w1 hle1 S1
      cases e with
      | exit id' => exact absurd h (hne id' s')
      | _ => exact hq
  | loop a iha =>
    intro c s act w e s' Q G RR S h0 hQ
    have h : iter (evCode C R ro a) C.lim s = some (e, s') := h0
    clear h0
    refine wpIn_loop_rounds C.lim ?_
    generalize C.lim = m at h
    induction m generalizing c s act w with
    | zero => cases h
    | succ m ihm =>
      unfold iter at h
      rw [roundsIn_succ]
      split at h
      · rename_i s1 h1
        exact iha c s act w .normal s1 _ G RR S h1 fun c1 act1 w1 hle1 S1 => ihm c1 s1 act1 w1 (G.mono hle1) (RR.mono hle1) S1 (fun c2 act2 w2 hle2 S2 => hQ c2 act2 w2 (Ctx.le_trans hle1 hle2) S2) h
      · rename_i hne
        refine iha c s act w e s' _ G RR S h fun c1 act1 w1 hle1 S1 => ?_
        have hq := hQ c1 act1 w1 hle1 S1
        cases e with
        | normal => exact absurd h (hne s')
        | _ => exact hq
  | rangeFunc g ps assign body iha ihb =>
    intro c s act w e s' Q G RR S h hQ
    have h : cRange C R ro g ps.toList assign body s = some (e, s') := h
    unfold cRange at h
    split at h
    · rename_i f first captured d h1 mk hg hent
      split at h
      · rename_i v h' hcall
        have hv := opd_run (act := act) G (fun t _ => S.tm.getD t) hg
        generalize hev : act.eval g = gv at hv
        cases hv with
        | fn f ha hb =>
          rename_i a' b'
          refine wpIn_rangeFunc fun fn _ => ?_
          obtain ⟨blk, mark, w1, c2, hrun, hle, hlc, hmk, H2⟩ := enterL_run (C := C) S.hp RR hent S.tm fn ps assign body
          have hargs : VRs c2 (first ++ [.yld h1.next] ++ captured) (a' ++ [.func (.yield blk) #[] #[]] ++ b') :=
            ((ha.mono hle).append (.cons (.yld hlc) .nil)).append (hb.mono hle)
          obtain ⟨hcf, hci⟩ := RC B w0 (Sub.refl _ _) f _ _ v h' hcall w1 c2 _ (G.mono hle) H2 hargs
          refine ⟨blk, mark, w1, { target := .fn (.func f) ⟨b'⟩, args := ⟨a'⟩ ++ #[.func (.yield blk) #[] #[]] }, w1, f, _, w1, hrun, ?_, fun _ _ => trivial, ?_, fun hd => by simp [fen, Fence.wide] at hd, CallsIn.mono (show CallsIn (fen roC) (0 - 1) C.P f _ w1 (CPost B w0 c2 v h') from hci) fun ed w3 hp => ?_⟩
          · have hmap : Array.map act.eval #[Operand.const (Value.func (Fn.yield blk) #[] #[])] = #[Value.func (Fn.yield blk) #[] #[]] := by simp [Act.eval]
            simp only [resolve, hev, Deferred.ofValue, hmap]
            rfl
          · rw [← hcf]
            simp only [invoke]
            simp
          · cases ed with
            | panicked ch => exact hp.elim
            | outgrown => exact hp.elim
            | returned u =>
              obtain ⟨c3, hle3, hvr, H3⟩ := hp
              obtain ⟨st, pend, tm, n, ps', a, b, d', hl, hst, rfl, hcase⟩ := endL_spec h
              obtain ⟨w4, hend, H4⟩ := loop_end (C := C) H3 (hle3 _ _ hlc) hl hst
              have S4 : SR B w0 c3 { s with hp := h'.put h1.next (.loop .exhausted pend tm n ps' a b d'), df := mk ++ s.df } { act with defers := mark ++ act.defers } w4 :=
                ⟨S.tm.mono (Ctx.le_trans hle hle3), H4, (hmk.mono hle3).append (S.df.mono (Ctx.le_trans hle hle3))⟩
              have hq := hQ c3 _ w4 (Ctx.le_trans hle hle3) S4
              refine ⟨pend, w4, hend, ?_⟩
              rcases hcase with ⟨rfl, rfl⟩ | ⟨rfl, rfl⟩ | ⟨id, rfl, rfl⟩
              · exact hq
              · exact wpIn_ret hq
              · exact wpIn_exit hq
      · cases h
    · cases h
end
end Go.Ev
namespace Go.Ev
open Go Go.RowKit

/-- What is asked of calls that are known by themselves. -/
def PrimOK (C : Cfg) (B : Kp) (w0 : World) : Prop := ∀ (B' : Kp) (w1 : World), Sub B w0 B' w1 → ∀ f g, C.prim f = some g → ∀ args h v h', g args h = some (v, h') → ∀ (w : World) (c : Ctx) (args' : List Value), GR C c → HR B' w1 c h w → VRs c args args' →
  (callFunc f ⟨args'⟩).run C.P w = .ok (.enter f ⟨args'⟩) w ∧ CallsIn Fence.wide 0 C.P f ⟨args'⟩ w (CPost B' w1 c v h')
structure CfgOK (C : Cfg) (B : Kp) (w0 : World) : Prop where
  mixed : C.P.follows .mixedOrders = true
  prim : PrimOK C B w0
  ext : ExtOK C
  numg : ∀ (f : FuncId) (fn : Func), C.P.funcs[f]? = some fn → fn.body.isSome = true → fn.name ≠ "runtime.NumGoroutine"
theorem CfgOK.sub {C : Cfg} {B B' : Kp} {w0 w1 : World} (h : CfgOK C B w0) (s : Sub B w0 B' w1) : CfgOK C B' w1 := ⟨h.mixed, fun B2 w2 s2 => h.prim B2 w2 (s.trans s2), h.ext, h.numg⟩

theorem initT_get : ∀ (vs : List AV) (i : Nat) (t : Tr AV) (j : Nat), (initT i vs t).get j = if i ≤ j ∧ j < i + vs.length then vs[j - i]? else t.get j
  | [], i, t, j => by simp only [initT, List.length_nil]; rw [if_neg (by omega)]
  | v :: vs, i, t, j => by
    simp only [initT]
    rw [initT_get vs (i + 1), Tr.get_set]
    by_cases e : j = i
    · subst e
      rw [if_neg (by omega), if_pos rfl, if_pos ⟨by omega, by simp⟩]
      simp
    · by_cases h : i + 1 ≤ j ∧ j < i + 1 + vs.length
      · rw [if_pos h, if_pos ⟨by omega, by simp; omega⟩]
        rw [show j - i = (j - (i + 1)) + 1 from by omega]
        simp
      · rw [if_neg h, if_neg e, if_neg (by simp; omega)]
theorem initT_TR {c : Ctx} {args : List AV} {args' : List Value} (h : VRs c args args') (k : Nat) :
    TR c (tmf (initT 0 args .lf)) ((⟨args'⟩ : Array Value) ++ Array.replicate (k - (⟨args'⟩ : Array Value).size) undef) (Nat.max args.length k) := by
  have hl := h.length
  have hmax : Nat.max args.length k = max args.length k := rfl
  have hv : ∀ t, tmf (initT 0 args .lf) t = if t < args.length then (args[t]?).getD .undef else .undef := fun t => by
    unfold tmf
    rw [initT_get]
    by_cases ht : t < args.length
    · rw [if_pos ⟨by omega, by omega⟩, if_pos ht]; simp
    · rw [if_neg (by omega), if_neg ht, Tr.get_lf]; rfl
  refine ⟨by simp; omega, fun t ht => ?_, fun t ht => ?_⟩
  · rw [hv]
    by_cases hta : t < args.length
    · rw [if_pos hta]
      obtain ⟨y, hy, hr⟩ := h.get t _ (List.getElem?_eq_getElem hta)
      refine ⟨y, ?_, by rw [List.getElem?_eq_getElem hta]; exact hr⟩
      rw [Array.getElem?_append_left (by show t < args'.length; omega)]
      simpa using hy
    · rw [if_neg hta]
      refine ⟨undef, ?_, VR.undef c⟩
      rw [Array.getElem?_append_right (by show args'.length ≤ t; omega), Array.getElem?_replicate, if_pos]
      show t - args'.length < k - args'.length
      rw [hmax] at ht
      omega
  · rw [hv, if_neg (by rw [hmax] at ht; omega)]

section
variable {C : Cfg} {R : Rec} {B : Kp} {w0 : World}

theorem aResults_run {c : Ctx} {s : St} {w : World} {tmps : Array Value} (T : TR c (tmf s.tm) tmps s.n) (H : HR B w0 c s.hp w) : ∀ (rs : List ResultVar) (vs : List AV), aResults C s rs = some vs →
    ∃ us, (rs.mapM (fun (x : ResultVar) => (match x with | .tmp t => pure (tmps.getD t undef) | .cell a t => do loadVar t (← asAddr (tmps.getD a undef)) : Sem Value))).run C.P w = .ok us w ∧ VRs c vs us
  | [], vs, e => by
    cases e
    exact ⟨[], rfl, .nil⟩
  | .tmp t :: rs, vs, e => by
    simp only [aResults] at e
    split at e
    · rename_i vs' hvs
      cases e
      obtain ⟨us, hrun, hr⟩ := aResults_run T H rs vs' hvs
      refine ⟨_, ?_, .cons (T.getD t) hr⟩
      simp only [List.mapM_cons, Sem.run_bind, Sem.run_pure, Result.andThen_ok, hrun]
    · cases e
  | .cell a t :: rs, vs, e => by
    simp only [aResults] at e
    split at e
    · rename_i v vs' hv hvs
      cases e
      obtain ⟨us, hrun, hr⟩ := aResults_run T H rs vs' hvs
      have hT := T.getD a
      obtain ⟨u, hload, hvu⟩ := aLoad_run (P := C.P) H hT hv
      have hsame : (do loadVar t (← asAddr (tmps.getD a undef)) : Sem Value).run C.P w = .ok u w := by
        rw [← hload]
        generalize hx : tmps.getD a undef = x at hT hload
        unfold aLoad at hv
        split at hv
        · rename_i r off hp
          have hp' : tmf s.tm a = .ptr r off := hp
          rw [hp'] at hT
          cases hT
          rfl
        · cases hv
      refine ⟨_, ?_, .cons hvu hr⟩
      simp only [List.mapM_cons]
      rw [Sem.run_bind, hsame]
      simp only [Result.andThen_ok, Sem.run_bind, hrun, Sem.run_pure]
    · cases e

theorem leave_run {fn : Func} {c : Ctx} {v : AV} {h' : Hp} : ∀ (df : List Nat) (Ds : List Deferred) (s : St) (act : Act) (w : World) (R0 : Ending → World → Prop), DR c df Ds → TR c (tmf s.tm) act.tmps s.n → HR B w0 c s.hp w →
    (match shut s.hp df with
      | some h => match aResults C { s with hp := h } fn.results.toList with
        | some [v] => some (v, h)
        | some vs => some (.tup vs, h)
        | none => none
      | none => none) = some (v, h') → (∀ u w', VR c v u → HR B w0 c h' w' → R0 (.returned u) w') → LeavesInM Fence.wide 0 C.P fn act.tmps R0 Ds .returning w
  | [], _, s, act, w, R0, .nil, T, H, e, hR => by
    simp only [shut] at e
    show ∃ v, (results fn act.tmps).run C.P w = .ok v w ∧ R0 (.returned v) w
    cases hr : aResults C { s with hp := s.hp } fn.results.toList with
    | none => rw [hr] at e; cases e
    | some vs =>
      obtain ⟨us, hrun, hvr⟩ := aResults_run (C := C) (s := { s with hp := s.hp }) T H fn.results.toList vs hr
      rw [hr] at e
      have hres : (results fn act.tmps).run C.P w = .ok (if h : (⟨us⟩ : Array Value).size = 1 then (⟨us⟩ : Array Value)[0] else .tuple ⟨us⟩) w := by
        unfold results
        rw [Array.mapM_eq_mapM_toList]
        simp only [Sem.run_bind, Sem.run_map, Sem.run_pure]
        exact congrArg (fun r => (Result.andThen r (fun (a : List Value) w' => Result.ok a.toArray w')).andThen (fun (a : Array Value) w' => Result.ok (if h : a.size = 1 then a[0] else Value.tuple a) w')) hrun
      split at e
      · rename_i x hx
        cases e; cases hx
        cases hvr with
        | cons hv ht =>
          cases ht
          exact ⟨_, hres, hR _ w hv H⟩
      · rename_i vs' hne hx
        cases e; cases hx
        refine ⟨_, hres, hR _ w ?_ H⟩
        rw [dif_neg]
        · exact .tup hvr
        · intro h1
          have hl : vs.length = 1 := hvr.length.trans h1
          obtain ⟨x, rfl⟩ := List.length_eq_one_iff.1 hl
          exact hne x rfl
      · rename_i hx; cases hx
  | d :: df, _, s, act, w, R0, .cons hd t, T, H, e, hR => by
    simp only [shut] at e
    refine ⟨by simp, .inl ?_⟩
    cases hg : s.hp.get d with
    | none => rw [hg] at e; cases e
    | some o =>
      cases o with
      | dfr =>
        rw [hg] at e
        obtain ⟨L', hL', hb, hB⟩ := H.obj _ _ hg
        rw [hd] at hL'; cases hL'
        have H' := H.putObj (o' := .dead) (O' := .deferred none) hg hd (fun _ _ _ _ e => by cases e) (fun _ _ _ _ e => by cases e) hB rfl trivial
        exact ⟨_, _, rfl, run_takeDeferred hb, leave_run df _ { s with hp := s.hp.put d .dead } act _ R0 t T H' e hR⟩
      | row _ _ _ _ => rw [hg] at e; cases e
      | map _ _ => rw [hg] at e; cases e
      | loop _ _ _ _ _ _ _ _ => rw [hg] at e; cases e
      | dead => rw [hg] at e; cases e

theorem leaveF_run {fn : Func} {e : Exit} {s : St} {v : AV} {h' : Hp} (he : leave C fn (some (e, s)) = some (v, h')) {c : Ctx} {act : Act} {w : World} (S : SR B w0 c s act w) {R0 : Ending → World → Prop}
    (hR : ∀ u w', VR c v u → HR B w0 c h' w' → R0 (.returned u) w') : bodyPostM Fence.wide 0 C.P fn R0 e act w := by
  cases e with
  | normal => exact leave_run s.df _ s act w R0 S.df S.tm S.hp he hR
  | ret => exact leave_run s.df _ s act w R0 S.df S.tm S.hp he hR
  | _ => cases he

theorem evFun_ok (K : CfgOK C B w0) (RC : CallOK C R B w0) (RY : YldOK C R B w0) {f : FuncId} {args : List AV} {h : Hp} {v : AV} {h' : Hp} (e : evFun C R f args h = some (v, h')) (w : World) (c : Ctx) (args' : List Value) (G : GR C c) (H : HR B w0 c h w) (hA : VRs c args args') :
    (callFunc f ⟨args'⟩).run C.P w = .ok (.enter f ⟨args'⟩) w ∧ CallsIn Fence.wide 0 C.P f ⟨args'⟩ w (CPost B w0 c v h') := by
  unfold evFun at e
  split at e
  · rename_i g hg
    exact K.prim B w0 (Sub.refl _ _) f g hg args h v h' e w c args' G H hA
  · split at e
    · rename_i fn hf
      unfold evBody at e
      split at e
      · rename_i code hb
        refine ⟨?_, ?_⟩
        · have hn := K.numg f fn hf (by rw [hb]; rfl)
          simp [callFunc, Sem.run_bind, run_program, hf, hn, hb]
        · refine callsIn_of_wp_marks hf hb trivial ?_
          have T := initT_TR hA fn.ntmps
          cases hc : evCode C R none code { tm := initT 0 args .lf, n := Nat.max args.length fn.ntmps, hp := h, df := [] } with
          | none => rw [hc] at e; cases e
          | some r =>
            obtain ⟨ex, s1⟩ := r
            rw [hc] at e
            exact evCode_sound (ro := none) (roC := none) K.mixed RC RY K.ext code c _ _ w ex s1 _ G trivial ⟨T, H, .nil⟩ hc fun c' act' w' hle S' =>
              leaveF_run e S' fun u w2 hv H2 => ⟨c', hle, hv, H2⟩
      · cases e
    · cases e

theorem setAll_TR {c : Ctx} : ∀ {ps : List Tmp} {vs : List AV} {us : List Value} {n : Nat} {tm tm' : Tr AV} {tmps : Array Value}, setAll ps vs n tm = some tm' → VRs c vs us → TR c (tmf tm) tmps n →
    TR c (tmf tm') ((ps.zip us).foldl (fun tmps (t, a) => tmps.setIfInBounds t a) tmps) n ∧ ps.length = us.length
  | [], [], us, n, tm, tm', tmps, e, hv, T => by
    cases hv
    cases e
    exact ⟨T, rfl⟩
  | p :: ps, v :: vs, u :: us, n, tm, tm', tmps, e, .cons hv ht, T => by
    simp only [setAll] at e
    have T1 : TR c (tmf (if p < n then tm.set p v else tm)) (tmps.setIfInBounds p u) n := by
      split
      · rename_i hp
        exact T.put hv hp (tmf_set _ _ _)
      · rename_i hp
        have : tmps.setIfInBounds p u = tmps := by
          apply Array.setIfInBounds_eq_of_size_le
          rw [T.size]; exact Nat.le_of_not_lt hp
        rw [this]; exact T
    obtain ⟨h1, h2⟩ := setAll_TR e ht T1
    exact ⟨h1, by simp [h2]⟩
  | [], _ :: _, _, _, _, _, _, e, _, _ => by cases e
  | _ :: _, [], _, _, _, _, _, e, _, _ => by cases e

theorem endR_ok {c : Ctx} {l : Nat} {L : Loc} (hL : c l = some L) {e : Exit} {s : St} {b : Bool} {h' : Hp} (he : endR l (some (e, s)) = some (b, h')) {act : Act} {w : World} (S : SR B w0 c s act w) {R0 : Ending → World → Prop}
    (hR : ∀ w', HR B w0 c h' w' → R0 (.returned (.bool b)) w') : roundPost C.P L.blk R0 e act w := by
  unfold endR at he
  simp only at he
  split at he
  · rename_i st pend tm n ps as bd d hl
    obtain ⟨L', hL', r, Ld, hb, hB, h1, h2, h3, h4, h5, h6, h7, h8⟩ := S.hp.obj _ _ hl
    rw [hL] at hL'; cases hL'
    have hlt := S.hp.lt _ _ hL
    split at he
    · cases he
      refine ⟨_, _, run_endRound none hb, hR _ (S.hp.putObj hl hL (fun _ _ _ _ e => by cases e) (fun _ _ _ _ e => by cases e) hB rfl ?_)⟩
      exact ⟨_, Ld, World.putObj_heap_same hlt, hB, rfl, rfl, h3, h4, h5, h6, h7, h8⟩
    · cases he
      refine ⟨_, _, run_endRound (some .ret) hb, hR _ (S.hp.putObj hl hL (fun _ _ _ _ e => by cases e) (fun _ _ _ _ e => by cases e) hB rfl ?_)⟩
      exact ⟨_, Ld, World.putObj_heap_same hlt, hB, rfl, rfl, h3, h4, h5, h6, h7, h8⟩
    · rename_i id
      cases he
      refine ⟨_, _, run_endRound (some (.exit id)) hb, hR _ (S.hp.putObj hl hL (fun _ _ _ _ e => by cases e) (fun _ _ _ _ e => by cases e) hB rfl ?_)⟩
      exact ⟨_, Ld, World.putObj_heap_same hlt, hB, rfl, rfl, h3, h4, h5, h6, h7, h8⟩
    · cases he
  · cases he

theorem evYld_ok (K : CfgOK C B w0) (RC : CallOK C R B w0) (RY : YldOK C R B w0) {l : Nat} {args : List AV} {h : Hp} {b : Bool} {h' : Hp} (e : evYld C R l args h = some (b, h')) (w : World) (c : Ctx) (args' : List Value) (L : Loc) (G : GR C c) (H : HR B w0 c h w) (hA : VRs c args args') (hL : c l = some L) :
    ∃ f tmps assign body, (Instr.yield L.blk ⟨args'⟩).run C.P w = .ok (.round L.blk f tmps assign body) w ∧ RoundIn Fence.wide 0 C.P L.blk f tmps assign body w (CPost B w0 c (.bool b) h') := by
  unfold evYld at e
  split at e
  · rename_i pend tm n ps as bd d hl
    obtain ⟨L', hL', r, Ld, hb, hB, h1, h2, h3, h4, h5, h6, h7, h8⟩ := H.obj _ _ hl
    rw [hL] at hL'; cases hL'
    split at e
    · rename_i tm' hset
      obtain ⟨T', hlen⟩ := setAll_TR hset hA h3
      have hps : r.params.size = ps.length := by rw [← h4]; simp
      refine ⟨_, _, _, _, run_yield hb (by rw [hps, hlen]; rfl), ?_⟩
      refine roundIn_of_wpIn trivial ?_
      split at e
      · rename_i s1 hs1
        split at e
        · rename_i pend2 tm2 n2 ps2 a2 b2 d2 hl1
          have hT : TR c (tmf tm') ((r.params.zip ⟨args'⟩).foldl (fun tmps (t, a) => tmps.setIfInBounds t a) r.tmps) n := by
            have : (r.params.zip (⟨args'⟩ : Array Value)).toList = ps.zip args' := by rw [Array.toList_zip, h4]
            rw [← Array.foldl_toList, this]
            exact T'
          refine evCode_sound (R := R) (ro := some l) (roC := some L.blk) K.mixed RC RY K.ext _ c { tm := tm', n, hp := h, df := [] } { tmps := _, defers := [] } w .normal s1 _ G ⟨L, hL, rfl⟩ ⟨hT, H, .nil⟩ (by rw [h5]; exact hs1) fun c1 act1 w1 hle1 S1 => ?_
          obtain ⟨L1, hL1, r1, Ld1, hb1, hB1, g1, g2, g3, g4, g5, g6, g7, g8⟩ := S1.hp.obj _ _ hl1
          have hLc := hle1 _ _ hL
          rw [hLc] at hL1; cases hL1
          refine ⟨_, run_beginRound hb1 g1, ?_⟩
          have H2 := S1.hp.putObj (o' := .loop .busy pend2 tm2 n2 ps2 a2 b2 d2) (O' := .loop { r1 with state := .busy }) hl1 hLc (fun _ _ _ _ e => by cases e) (fun _ _ _ _ e => by cases e) hB1 rfl
            ⟨_, Ld1, World.putObj_heap_same (S1.hp.lt _ _ hLc), hB1, rfl, g2, g3, g4, g5, g6, g7, g8⟩
          cases hc : evCode C R (some l) bd { s1 with hp := s1.hp.put l (.loop .busy pend2 tm2 n2 ps2 a2 b2 d2) } with
          | none => rw [hc] at e; cases e
          | some q =>
            obtain ⟨ex, s2⟩ := q
            rw [hc] at e
            refine evCode_sound (R := R) (ro := some l) (roC := some L.blk) K.mixed RC RY K.ext _ c1 { s1 with hp := s1.hp.put l (.loop .busy pend2 tm2 n2 ps2 a2 b2 d2) } act1 _ ex s2 _ (G.mono hle1) ⟨L, hLc, rfl⟩ ⟨S1.tm, H2, S1.df⟩ (by rw [h6]; exact hc) fun c3 act3 w3 hle3 S3 => ?_
            exact endR_ok (hle3 _ _ hLc) e S3 fun w4 H4 => ⟨c3, Ctx.le_trans hle1 hle3, .bool b, H4⟩
        · cases e
      · cases e
    · cases e
  · cases e

theorem evRec_ok (K : CfgOK C B w0) : ∀ d, CallOK C (evRec C d) B w0 ∧ YldOK C (evRec C d) B w0
  | 0 => ⟨fun _ _ _ f args h v h' e => (by cases e), fun _ _ _ l args h b h' e => (by cases e)⟩
  | d + 1 => by
    obtain ⟨RC, RY⟩ := evRec_ok K d
    exact ⟨fun B' w1 s f args h v h' e w c args' G H hA => evFun_ok (K.sub s) (RC.sub s) (RY.sub s) e w c args' G H hA,
      fun B' w1 s l args h b h' e w c args' L G H hA hL => evYld_ok (K.sub s) (RC.sub s) (RY.sub s) e w c args' L G H hA hL⟩
end
end Go.Ev
