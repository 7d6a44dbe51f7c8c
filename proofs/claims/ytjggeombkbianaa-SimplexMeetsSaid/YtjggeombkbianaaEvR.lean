/-
  The evaluator's code, calls and rounds, walked in the machine.
-/
import Derived.Test.YtjggeombkbianaaEvQ
namespace Go.Ev
open Go Go.RowKit

/-- In which round's frame the code stands. -/
noncomputable def RoR (c : Ctx) : Option Nat → Option Nat → Prop
  | none, none => True
  | some l, some L => ∃ loc, c l = some loc ∧ loc.blk = L
  | _, _ => False
theorem RoR.mono {c d : Ctx} (hcd : Ctx.le c d) : ∀ {a b : Option Nat}, RoR c a b → RoR d a b
  | none, none, _ => trivial
  | some _, some _, ⟨loc, h, e⟩ => ⟨loc, hcd _ _ h, e⟩
  | none, some _, h => h.elim
  | some _, none, h => h.elim
theorem DR.append {c : Ctx} : ∀ {a : List Nat} {a' : List Deferred}, DR c a a' → ∀ {b : List Nat} {b' : List Deferred}, DR c b b' → DR c (a ++ b) (a' ++ b')
  | _, _, .nil, _, _, h => h
  | _, _, .cons h t, _, _, k => .cons h (t.append k)

section
variable {C : Cfg} {R : Rec} {B : Kp} {w0 : World}

/-- A loop's record is laid. -/
theorem enterL_run {c : Ctx} {h h1 : Hp} {w : World} (H : HR B w0 c h w) {ro roC : Option Nat} (RR : RoR c ro roC) {d : Nat} {mk : List Nat} (e : enterL ro h = some (d, h1, mk)) {tm : Tr AV} {n : Nat} {tmps : Array Value} (T : TR c (tmf tm) tmps n)
    (fn : FuncId) (ps : Array Tmp) (assign body : Code) : ∃ blk mark w1 c2, (Instr.enterLoop fn tmps ps assign body roC).run C.P w = .ok (blk, mark) w1 ∧ Ctx.le c c2 ∧ c2 h1.next = some ⟨blk, 0, 0⟩ ∧ DR c2 mk mark ∧
      HR B w0 c2 (h1.new (.loop .ready none tm n ps.toList assign body d)) w1 := by
  unfold enterL at e
  cases ro with
  | none =>
    cases roC with
    | some L => exact RR.elim
    | none =>
      simp only [Option.some.injEq, Prod.mk.injEq] at e
      obtain ⟨rfl, rfl, rfl⟩ := e
      have H1 := H.newObj .dfr (.deferred (some [])) (fun _ _ _ _ e => by cases e) ⟨heap_alloc_new _ _, H.new⟩
      have hle1 : Ctx.le c (c.ext h.next ⟨w.heap.size, 0, 0⟩) := Ctx.le_ext (H.fresh _ (Nat.le_refl _))
      have hd : (c.ext h.next ⟨w.heap.size, 0, 0⟩) h.next = some ⟨w.heap.size, 0, 0⟩ := Ctx.ext_same _ _ _
      have hle2 : Ctx.le (c.ext h.next ⟨w.heap.size, 0, 0⟩) ((c.ext h.next ⟨w.heap.size, 0, 0⟩).ext (h.new .dfr).next ⟨(w.alloc (.deferred (some []))).heap.size, 0, 0⟩) := Ctx.le_ext (H1.fresh _ (Nat.le_refl _))
      have H2 := H1.newObj (.loop .ready none tm n ps.toList assign body h.next) (.loop { state := .ready, pending := none, fn, tmps, params := ps, assign, body, defers := w.heap.size })
        (fun _ _ _ _ e => by cases e) ⟨_, ⟨w.heap.size, 0, 0⟩, heap_alloc_new _ _, H1.new, rfl, rfl, T.mono (Ctx.le_trans hle1 hle2), rfl, rfl, rfl, hle2 _ _ hd, rfl⟩
      refine ⟨_, _, _, _, run_enterLoop_outer fn tmps ps assign body, Ctx.le_trans hle1 hle2, ?_, .cons (L := ⟨w.heap.size, 0, 0⟩) (hle2 _ _ hd) .nil, H2⟩
      rw [Ctx.ext_same]
      simp
  | some l =>
    cases roC with
    | none => exact RR.elim
    | some L =>
      obtain ⟨loc, hloc, rfl⟩ := RR
      simp only at e
      split at e
      · rename_i st pend tm' n' ps' as' bd' d' hl
        simp only [Option.some.injEq, Prod.mk.injEq] at e
        obtain ⟨rfl, rfl, rfl⟩ := e
        obtain ⟨L', hL', r, Ld, hb, hB, h1, h2, h3, h4, h5, h6, h7, h8⟩ := H.obj _ _ hl
        rw [hloc] at hL'; cases hL'
        have hle2 : Ctx.le c (c.ext h.next ⟨w.heap.size, 0, 0⟩) := Ctx.le_ext (H.fresh _ (Nat.le_refl _))
        have H2 := H.newObj (.loop .ready none tm n ps.toList assign body d') (.loop { state := .ready, pending := none, fn, tmps, params := ps, assign, body, defers := r.defers })
          (fun _ _ _ _ e => by cases e) ⟨_, Ld, heap_alloc_new _ _, H.new, rfl, rfl, T.mono hle2, rfl, rfl, rfl, hle2 _ _ h7, h8⟩
        refine ⟨w.heap.size, [], _, _, ?_, hle2, Ctx.ext_same _ _ _, .nil, H2⟩
        simp only [Instr.enterLoop, Sem.run_bind, run_getLoop hb, Result.andThen, Sem.run_pure, run_newObj_alloc]
      · cases e

theorem loop_end {c : Ctx} {h : Hp} {w : World} (H : HR B w0 c h w) {l : Nat} {L : Loc} (hL : c l = some L) {st : LoopState} {pend : Option Code} {tm : Tr AV} {n : Nat} {ps : List Tmp} {a b : Code} {d : Nat}
    (hl : h.get l = some (.loop st pend tm n ps a b d)) (hst : st ≠ .busy) : ∃ w', (Instr.endLoop L.blk).run C.P w = .ok pend w' ∧ HR B w0 c (h.put l (.loop .exhausted pend tm n ps a b d)) w' := by
  obtain ⟨L', hL', r, Ld, hb, hB, h1, h2, h3, h4, h5, h6, h7, h8⟩ := H.obj _ _ hl
  rw [hL] at hL'; cases hL'
  refine ⟨_, (run_endLoop hb (by rw [h1]; exact hst)).trans (by rw [h2]), H.putObj hl hL (fun _ _ _ _ e => by cases e) (fun _ _ _ _ e => by cases e) hB rfl ?_⟩
  exact ⟨_, Ld, World.putObj_heap_same (H.lt _ _ hL), hB, rfl, rfl, h3, h4, h5, h6, h7, h8⟩

theorem endL_spec {s s' : St} {l : Nat} {mk : List Nat} {h : Hp} {e : Exit} (hE : endL s l mk h = some (e, s')) : ∃ st pend tm n ps a b d, h.get l = some (.loop st pend tm n ps a b d) ∧ st ≠ .busy ∧
    s' = { s with hp := h.put l (.loop .exhausted pend tm n ps a b d), df := mk ++ s.df } ∧ ((pend = none ∧ e = .normal) ∨ (pend = some .ret ∧ e = .ret) ∨ ∃ id, pend = some (.exit id) ∧ e = .exit id) := by
  unfold endL at hE
  split at hE
  · cases hE
  · rename_i st pend tm n ps a b d hst hl
    refine ⟨st, pend, tm, n, ps, a, b, d, hl, hst, ?_⟩
    split at hE
    · cases hE; exact ⟨rfl, .inl ⟨rfl, rfl⟩⟩
    · cases hE; exact ⟨rfl, .inr (.inl ⟨rfl, rfl⟩)⟩
    · cases hE; exact ⟨rfl, .inr (.inr ⟨_, rfl, rfl⟩)⟩
    · cases hE
  · cases hE

theorem evCode_sound (hm : C.P.follows .mixedOrders = true) (RC : CallOK C R B w0) (RY : YldOK C R B w0) (RE : ExtOK C) (ro roC : Option Nat) (code : Code) : ∀ (c : Ctx) (s : St) (act : Act) (w : World) (e : Exit) (s' : St) (Q : Exit → Act → World → Prop),
    GR C c → RoR c ro roC → SR B w0 c s act w → evCode C R ro code s = some (e, s') → (∀ c' act' w', Ctx.le c c' → SR B w0 c' s' act' w' → Q e act' w') → code.wpIn (fen roC) 0 C.P Q act w := by
  induction code with
  | skip =>
    intro c s act w e s' Q G RR S h hQ
    have h : some (Exit.normal, s) = some (e, s') := h
    cases h
    exact wpIn_skip (hQ c act w (Ctx.le_refl c) S)
  | label l =>
    intro c s act w e s' Q G RR S h hQ
    have h : some (Exit.normal, s) = some (e, s') := h
    cases h
    exact wpIn_label (hQ c act w (Ctx.le_refl c) S)
  | exit id =>
    intro c s act w e s' Q G RR S h hQ
    have h : some (Exit.exit id, s) = some (e, s') := h
    cases h
    exact wpIn_exit (hQ c act w (Ctx.le_refl c) S)
  | ret =>
    intro c s act w e s' Q G RR S h hQ
    have h : some (Exit.ret, s) = some (e, s') := h
    cases h
    exact wpIn_ret (hQ c act w (Ctx.le_refl c) S)
  | scope b ih =>
    intro c s act w e s' Q G RR S h hQ
    have h : none = some (e, s') := h
    cases h
  | goto l =>
    intro c s act w e s' Q G RR S h hQ
    have h : none = some (e, s') := h
    cases h
  | refuse why =>
    intro c s act w e s' Q G RR S h hQ
    have h : none = some (e, s') := h
    cases h
  | region id ops draw =>
    intro c s act w e s' Q G RR S h hQ
    have h : cRegion C R ops.toList draw s = some (e, s') := h
    unfold cRegion at h
    cases draw with
    | true =>
      simp only [cond_true] at h
      cases hd : evDraw C R ops.toList s with
      | none => rw [hd] at h; cases h
      | some s1 =>
        rw [hd] at h
        cases h
        exact draw_sound hm RC RY RE G S hd hQ
    | false =>
      simp only [cond_false] at h
      cases hd : evOps C R ops.toList ops.toList s with
      | none => rw [hd] at h; cases h
      | some s1 =>
        rw [hd] at h
        cases h
        refine wpIn_region ?_
        have := evOps_sound (ro := roC) RC RY RE ops.toList 0 c s s' act w rfl G S hd hQ
        rw [List.range_eq_range']
        rw [Array.length_toList] at this
        exact this
  | seq a b iha ihb =>
    intro c s act w e s' Q G RR S h hQ
    have h : cSeq (evCode C R ro a) (evCode C R ro b) s = some (e, s') := h
    unfold cSeq at h
    refine wpIn_seq ?_
    split at h
    · rename_i s1 h1
      exact iha c s act w .normal s1 _ G RR S h1 fun c1 act1 w1 hle1 S1 => ihb c1 s1 act1 w1 e s' Q (G.mono hle1) (RR.mono hle1) S1 h fun c2 act2 w2 hle2 S2 => hQ c2 act2 w2 (Ctx.le_trans hle1 hle2) S2
    · rename_i hne
      refine iha c s act w e s' _ G RR S h fun c1 act1 w1 hle1 S1 => ?_
      have hq := hQ c1 act1 w1 hle1 S1
      cases e with
      | normal => exact absurd h (hne s')
      | _ => exact hq
  | cond x a b iha ihb =>
    intro c s act w e s' Q G RR S h hQ
    have h : cCond C x (evCode C R ro a) (evCode C R ro b) s = some (e, s') := h
    unfold cCond at h
    split at h
    · rename_i hx
      have hv := opd_run (act := act) G (fun t _ => S.tm.getD t) hx
      generalize hev : act.eval x = v at hv
      cases hv
      exact wpIn_cond_true hev (iha c s act w e s' Q G RR S h hQ)
    · rename_i hx
      have hv := opd_run (act := act) G (fun t _ => S.tm.getD t) hx
      generalize hev : act.eval x = v at hv
      cases hv
      exact wpIn_cond_false hev (ihb c s act w e s' Q G RR S h hQ)
    · cases h
  | block id a iha =>
    intro c s act w e s' Q G RR S h hQ
    have h : cBlock id (evCode C R ro a) s = some (e, s') := h
    unfold cBlock at h
    refine wpIn_block ?_
    split at h
    · rename_i id' s1 h1
      refine iha c s act w (.exit id') s1 _ G RR S h1 fun c1 act1 w1 hle1 S1 => ?_
      show (if id' = id then Q .normal act1 w1 else Q (.exit id') act1 w1)
      cases hb : Nat.beq id' id with
      | true =>
        rw [hb] at h
        cases h
        rw [if_pos (Nat.eq_of_beq_eq_true hb)]
        exact hQ c1 act1 w1 hle1 S1
      | false =>
        rw [hb] at h
        cases h
        rw [if_neg (Nat.ne_of_beq_eq_false hb)]
        exact hQ c1 act1 w1 hle1 S1
    · rename_i hne
      refine iha c s act w e s' _ G RR S h fun c1 act1 w1 hle1 S1 => ?_
      have hq := hQ c1 act1 w1 hle1 S1
      cases e with
      | exit id' => exact absurd h (hne id' s')
      | _ => exact hq
  | loop a iha =>
    intro c s act w e s' Q G RR S h0 hQ
    have h : iter (evCode C R ro a) C.lim s = some (e, s') := h0
    clear h0
    refine wpIn_loop_rounds C.lim ?_
    generalize C.lim = m at h
    induction m generalizing c s act w with
    | zero => cases h
    | succ m ihm =>
      unfold iter at h
      rw [roundsIn_succ]
      split at h
      · rename_i s1 h1
        exact iha c s act w .normal s1 _ G RR S h1 fun c1 act1 w1 hle1 S1 => ihm c1 s1 act1 w1 (G.mono hle1) (RR.mono hle1) S1 (fun c2 act2 w2 hle2 S2 => hQ c2 act2 w2 (Ctx.le_trans hle1 hle2) S2) h
      · rename_i hne
        refine iha c s act w e s' _ G RR S h fun c1 act1 w1 hle1 S1 => ?_
        have hq := hQ c1 act1 w1 hle1 S1
        cases e with
        | normal => exact absurd h (hne s')
        | _ => exact hq
  | rangeFunc g ps assign body iha ihb =>
    intro c s act w e s' Q G RR S h hQ
    have h : cRange C R ro g ps.toList assign body s = some (e, s') := h
    unfold cRange at h
    split at h
    · rename_i f first captured d h1 mk hg hent
      split at h
      · rename_i v h' hcall
        have hv := opd_run (act := act) G (fun t _ => S.tm.getD t) hg
        generalize hev : act.eval g = gv at hv
        cases hv with
        | fn f ha hb =>
          rename_i a' b'
          refine wpIn_rangeFunc fun fn _ => ?_
          obtain ⟨blk, mark, w1, c2, hrun, hle, hlc, hmk, H2⟩ := enterL_run (C := C) S.hp RR hent S.tm fn ps assign body
          have hargs : VRs c2 (first ++ [.yld h1.next] ++ captured) (a' ++ [.func (.yield blk) #[] #[]] ++ b') :=
            ((ha.mono hle).append (.cons (.yld hlc) .nil)).append (hb.mono hle)
          obtain ⟨hcf, hci⟩ := RC B w0 (Sub.refl _ _) f _ _ v h' hcall w1 c2 _ (G.mono hle) H2 hargs
          refine ⟨blk, mark, w1, { target := .fn (.func f) ⟨b'⟩, args := ⟨a'⟩ ++ #[.func (.yield blk) #[] #[]] }, w1, f, _, w1, hrun, ?_, fun _ _ => trivial, ?_, fun hd => by simp [fen, Fence.wide] at hd, CallsIn.mono (show CallsIn (fen roC) (0 - 1) C.P f _ w1 (CPost B w0 c2 v h') from hci) fun ed w3 hp => ?_⟩
          · have hmap : Array.map act.eval #[Operand.const (Value.func (Fn.yield blk) #[] #[])] = #[Value.func (Fn.yield blk) #[] #[]] := by simp [Act.eval]
            simp only [resolve, hev, Deferred.ofValue, hmap]
            rfl
          · rw [← hcf]
            simp only [invoke]
            simp
          · cases ed with
            | panicked ch => exact hp.elim
            | outgrown => exact hp.elim
            | returned u =>
              obtain ⟨c3, hle3, hvr, H3⟩ := hp
              obtain ⟨st, pend, tm, n, ps', a, b, d', hl, hst, rfl, hcase⟩ := endL_spec h
              obtain ⟨w4, hend, H4⟩ := loop_end (C := C) H3 (hle3 _ _ hlc) hl hst
              have S4 : SR B w0 c3 { s with hp := h'.put h1.next (.loop .exhausted pend tm n ps' a b d'), df := mk ++ s.df } { act with defers := mark ++ act.defers } w4 :=
                ⟨S.tm.mono (Ctx.le_trans hle hle3), H4, (hmk.mono hle3).append (S.df.mono (Ctx.le_trans hle hle3))⟩
              have hq := hQ c3 _ w4 (Ctx.le_trans hle hle3) S4
              refine ⟨pend, w4, hend, ?_⟩
              rcases hcase with ⟨rfl, rfl⟩ | ⟨rfl, rfl⟩ | ⟨id, rfl, rfl⟩
              · exact hq
              · exact wpIn_ret hq
              · exact wpIn_exit hq
      · cases h
    · cases h
end
end Go.Ev
