/-
  The evaluator's calls and rounds are the machine's.
-/
import Derived.Test.YtjggeombkbianaaEvR
namespace Go.Ev
open Go Go.RowKit

/-- What is asked of calls that are known by themselves. -/
def PrimOK (C : Cfg) (B : Kp) (w0 : World) : Prop := ∀ (B' : Kp) (w1 : World), Sub B w0 B' w1 → ∀ f g, C.prim f = some g → ∀ args h v h', g args h = some (v, h') → ∀ (w : World) (c : Ctx) (args' : List Value), GR C c → HR B' w1 c h w → VRs c args args' →
  (callFunc f ⟨args'⟩).run C.P w = .ok (.enter f ⟨args'⟩) w ∧ CallsIn Fence.wide 0 C.P f ⟨args'⟩ w (CPost B' w1 c v h')
structure CfgOK (C : Cfg) (B : Kp) (w0 : World) : Prop where
  mixed : C.P.follows .mixedOrders = true
  prim : PrimOK C B w0
  ext : ExtOK C
  numg : ∀ (f : FuncId) (fn : Func), C.P.funcs[f]? = some fn → fn.body.isSome = true → fn.name ≠ "runtime.NumGoroutine"
theorem CfgOK.sub {C : Cfg} {B B' : Kp} {w0 w1 : World} (h : CfgOK C B w0) (s : Sub B w0 B' w1) : CfgOK C B' w1 := ⟨h.mixed, fun B2 w2 s2 => h.prim B2 w2 (s.trans s2), h.ext, h.numg⟩

theorem initT_get : ∀ (vs : List AV) (i : Nat) (t : Tr AV) (j : Nat), (initT i vs t).get j = if i ≤ j ∧ j < i + vs.length then vs[j - i]? else t.get j
  | [], i, t, j => by simp only [initT, List.length_nil]; rw [if_neg (by omega)]
  | v :: vs, i, t, j => by
    simp only [initT]
    rw [initT_get vs (i + 1), Tr.get_set]
    by_cases e : j = i
    · subst e
      rw [if_neg (by omega), if_pos rfl, if_pos ⟨by omega, by simp⟩]
      simp
    · by_cases h : i + 1 ≤ j ∧ j < i + 1 + vs.length
      · rw [if_pos h, if_pos ⟨by omega, by simp; omega⟩]
        rw [show j - i = (j - (i + 1)) + 1 from by omega]
        simp
      · rw [if_neg h, if_neg e, if_neg (by simp; omega)]
theorem initT_TR {c : Ctx} {args : List AV} {args' : List Value} (h : VRs c args args') (k : Nat) :
    TR c (tmf (initT 0 args .lf)) ((⟨args'⟩ : Array Value) ++ Array.replicate (k - (⟨args'⟩ : Array Value).size) undef) (Nat.max args.length k) := by
  have hl := h.length
  have hmax : Nat.max args.length k = max args.length k := rfl
  have hv : ∀ t, tmf (initT 0 args .lf) t = if t < args.length then (args[t]?).getD .undef else .undef := fun t => by
    unfold tmf
    rw [initT_get]
    by_cases ht : t < args.length
    · rw [if_pos ⟨by omega, by omega⟩, if_pos ht]; simp
    · rw [if_neg (by omega), if_neg ht, Tr.get_lf]; rfl
  refine ⟨by simp; omega, fun t ht => ?_, fun t ht => ?_⟩
  · rw [hv]
    by_cases hta : t < args.length
    · rw [if_pos hta]
      obtain ⟨y, hy, hr⟩ := h.get t _ (List.getElem?_eq_getElem hta)
      refine ⟨y, ?_, by rw [List.getElem?_eq_getElem hta]; exact hr⟩
      rw [Array.getElem?_append_left (by show t < args'.length; omega)]
      simpa using hy
    · rw [if_neg hta]
      refine ⟨undef, ?_, VR.undef c⟩
      rw [Array.getElem?_append_right (by show args'.length ≤ t; omega), Array.getElem?_replicate, if_pos]
      show t - args'.length < k - args'.length
      rw [hmax] at ht
      omega
  · rw [hv, if_neg (by rw [hmax] at ht; omega)]

section
variable {C : Cfg} {R : Rec} {B : Kp} {w0 : World}

theorem aResults_run {c : Ctx} {s : St} {w : World} {tmps : Array Value} (T : TR c (tmf s.tm) tmps s.n) (H : HR B w0 c s.hp w) : ∀ (rs : List ResultVar) (vs : List AV), aResults C s rs = some vs →
    ∃ us, (rs.mapM (fun (x : ResultVar) => (match x with | .tmp t => pure (tmps.getD t undef) | .cell a t => do loadVar t (← asAddr (tmps.getD a undef)) : Sem Value))).run C.P w = .ok us w ∧ VRs c vs us
  | [], vs, e => by
    cases e
    exact ⟨[], rfl, .nil⟩
  | .tmp t :: rs, vs, e => by
    simp only [aResults] at e
    split at e
    · rename_i vs' hvs
      cases e
      obtain ⟨us, hrun, hr⟩ := aResults_run T H rs vs' hvs
      refine ⟨_, ?_, .cons (T.getD t) hr⟩
      simp only [List.mapM_cons, Sem.run_bind, Sem.run_pure, Result.andThen_ok, hrun]
    · cases e
  | .cell a t :: rs, vs, e => by
    simp only [aResults] at e
    split at e
    · rename_i v vs' hv hvs
      cases e
      obtain ⟨us, hrun, hr⟩ := aResults_run T H rs vs' hvs
      have hT := T.getD a
      obtain ⟨u, hload, hvu⟩ := aLoad_run (P := C.P) H hT hv
      have hsame : (do loadVar t (← asAddr (tmps.getD a undef)) : Sem Value).run C.P w = .ok u w := by
        rw [← hload]
        generalize hx : tmps.getD a undef = x at hT hload
        unfold aLoad at hv
        split at hv
        · rename_i r off hp
          have hp' : tmf s.tm a = .ptr r off := hp
          rw [hp'] at hT
          cases hT
          rfl
        · cases hv
      refine ⟨_, ?_, .cons hvu hr⟩
      simp only [List.mapM_cons]
      rw [Sem.run_bind, hsame]
      simp only [Result.andThen_ok, Sem.run_bind, hrun, Sem.run_pure]
    · cases e

theorem leave_run {fn : Func} {c : Ctx} {v : AV} {h' : Hp} : ∀ (df : List Nat) (Ds : List Deferred) (s : St) (act : Act) (w : World) (R0 : Ending → World → Prop), DR c df Ds → TR c (tmf s.tm) act.tmps s.n → HR B w0 c s.hp w →
    (match shut s.hp df with
      | some h => match aResults C { s with hp := h } fn.results.toList with
        | some [v] => some (v, h)
        | some vs => some (.tup vs, h)
        | none => none
      | none => none) = some (v, h') → (∀ u w', VR c v u → HR B w0 c h' w' → R0 (.returned u) w') → LeavesInM Fence.wide 0 C.P fn act.tmps R0 Ds .returning w
  | [], _, s, act, w, R0, .nil, T, H, e, hR => by
    simp only [shut] at e
    show ∃ v, (results fn act.tmps).run C.P w = .ok v w ∧ R0 (.returned v) w
    cases hr : aResults C { s with hp := s.hp } fn.results.toList with
    | none => rw [hr] at e; cases e
    | some vs =>
      obtain ⟨us, hrun, hvr⟩ := aResults_run (C := C) (s := { s with hp := s.hp }) T H fn.results.toList vs hr
      rw [hr] at e
      have hres : (results fn act.tmps).run C.P w = .ok (if h : (⟨us⟩ : Array Value).size = 1 then (⟨us⟩ : Array Value)[0] else .tuple ⟨us⟩) w := by
        unfold results
        rw [Array.mapM_eq_mapM_toList]
        simp only [Sem.run_bind, Sem.run_map, Sem.run_pure]
        exact congrArg (fun r => (Result.andThen r (fun (a : List Value) w' => Result.ok a.toArray w')).andThen (fun (a : Array Value) w' => Result.ok (if h : a.size = 1 then a[0] else Value.tuple a) w')) hrun
      split at e
      · rename_i x hx
        cases e; cases hx
        cases hvr with
        | cons hv ht =>
          cases ht
          exact ⟨_, hres, hR _ w hv H⟩
      · rename_i vs' hne hx
        cases e; cases hx
        refine ⟨_, hres, hR _ w ?_ H⟩
        rw [dif_neg]
        · exact .tup hvr
        · intro h1
          have hl : vs.length = 1 := hvr.length.trans h1
          obtain ⟨x, rfl⟩ := List.length_eq_one_iff.1 hl
          exact hne x rfl
      · rename_i hx; cases hx
  | d :: df, _, s, act, w, R0, .cons hd t, T, H, e, hR => by
    simp only [shut] at e
    refine ⟨by simp, .inl ?_⟩
    cases hg : s.hp.get d with
    | none => rw [hg] at e; cases e
    | some o =>
      cases o with
      | dfr =>
        rw [hg] at e
        obtain ⟨L', hL', hb, hB⟩ := H.obj _ _ hg
        rw [hd] at hL'; cases hL'
        have H' := H.putObj (o' := .dead) (O' := .deferred none) hg hd (fun _ _ _ _ e => by cases e) (fun _ _ _ _ e => by cases e) hB rfl trivial
        exact ⟨_, _, rfl, run_takeDeferred hb, leave_run df _ { s with hp := s.hp.put d .dead } act _ R0 t T H' e hR⟩
      | row _ _ _ _ => rw [hg] at e; cases e
      | map _ _ => rw [hg] at e; cases e
      | loop _ _ _ _ _ _ _ _ => rw [hg] at e; cases e
      | dead => rw [hg] at e; cases e

theorem leaveF_run {fn : Func} {e : Exit} {s : St} {v : AV} {h' : Hp} (he : leave C fn (some (e, s)) = some (v, h')) {c : Ctx} {act : Act} {w : World} (S : SR B w0 c s act w) {R0 : Ending → World → Prop}
    (hR : ∀ u w', VR c v u → HR B w0 c h' w' → R0 (.returned u) w') : bodyPostM Fence.wide 0 C.P fn R0 e act w := by
  cases e with
  | normal => exact leave_run s.df _ s act w R0 S.df S.tm S.hp he hR
  | ret => exact leave_run s.df _ s act w R0 S.df S.tm S.hp he hR
  | _ => cases he

theorem evFun_ok (K : CfgOK C B w0) (RC : CallOK C R B w0) (RY : YldOK C R B w0) {f : FuncId} {args : List AV} {h : Hp} {v : AV} {h' : Hp} (e : evFun C R f args h = some (v, h')) (w : World) (c : Ctx) (args' : List Value) (G : GR C c) (H : HR B w0 c h w) (hA : VRs c args args') :
    (callFunc f ⟨args'⟩).run C.P w = .ok (.enter f ⟨args'⟩) w ∧ CallsIn Fence.wide 0 C.P f ⟨args'⟩ w (CPost B w0 c v h') := by
  unfold evFun at e
  split at e
  · rename_i g hg
    exact K.prim B w0 (Sub.refl _ _) f g hg args h v h' e w c args' G H hA
  · split at e
    · rename_i fn hf
      unfold evBody at e
      split at e
      · rename_i code hb
        refine ⟨?_, ?_⟩
        · have hn := K.numg f fn hf (by rw [hb]; rfl)
          simp [callFunc, Sem.run_bind, run_program, hf, hn, hb]
        · refine callsIn_of_wp_marks hf hb trivial ?_
          have T := initT_TR hA fn.ntmps
          cases hc : evCode C R none code { tm := initT 0 args .lf, n := Nat.max args.length fn.ntmps, hp := h, df := [] } with
          | none => rw [hc] at e; cases e
          | some r =>
            obtain ⟨ex, s1⟩ := r
            rw [hc] at e
            exact evCode_sound (ro := none) (roC := none) K.mixed RC RY K.ext code c _ _ w ex s1 _ G trivial ⟨T, H, .nil⟩ hc fun c' act' w' hle S' =>
              leaveF_run e S' fun u w2 hv H2 => ⟨c', hle, hv, H2⟩
      · cases e
    · cases e

theorem setAll_TR {c : Ctx} : ∀ {ps : List Tmp} {vs : List AV} {us : List Value} {n : Nat} {tm tm' : Tr AV} {tmps : Array Value}, setAll ps vs n tm = some tm' → VRs c vs us → TR c (tmf tm) tmps n →
    TR c (tmf tm') ((ps.zip us).foldl (fun tmps (t, a) => tmps.setIfInBounds t a) tmps) n ∧ ps.length = us.length
  | [], [], us, n, tm, tm', tmps, e, hv, T => by
    cases hv
    cases e
    exact ⟨T, rfl⟩
  | p :: ps, v :: vs, u :: us, n, tm, tm', tmps, e, .cons hv ht, T => by
    simp only [setAll] at e
    have T1 : TR c (tmf (if p < n then tm.set p v else tm)) (tmps.setIfInBounds p u) n := by
      split
      · rename_i hp
        exact T.put hv hp (tmf_set _ _ _)
      · rename_i hp
        have : tmps.setIfInBounds p u = tmps := by
          apply Array.setIfInBounds_eq_of_size_le
          rw [T.size]; exact Nat.le_of_not_lt hp
        rw [this]; exact T
    obtain ⟨h1, h2⟩ := setAll_TR e ht T1
    exact ⟨h1, by simp [h2]⟩
  | [], _ :: _, _, _, _, _, _, e, _, _ => by cases e
  | _ :: _, [], _, _, _, _, _, e, _, _ => by cases e

theorem endR_ok {c : Ctx} {l : Nat} {L : Loc} (hL : c l = some L) {e : Exit} {s : St} {b : Bool} {h' : Hp} (he : endR l (some (e, s)) = some (b, h')) {act : Act} {w : World} (S : SR B w0 c s act w) {R0 : Ending → World → Prop}
    (hR : ∀ w', HR B w0 c h' w' → R0 (.returned (.bool b)) w') : roundPost C.P L.blk R0 e act w := by
  unfold endR at he
  simp only at he
  split at he
  · rename_i st pend tm n ps as bd d hl
    obtain ⟨L', hL', r, Ld, hb, hB, h1, h2, h3, h4, h5, h6, h7, h8⟩ := S.hp.obj _ _ hl
    rw [hL] at hL'; cases hL'
    have hlt := S.hp.lt _ _ hL
    split at he
    · cases he
      refine ⟨_, _, run_endRound none hb, hR _ (S.hp.putObj hl hL (fun _ _ _ _ e => by cases e) (fun _ _ _ _ e => by cases e) hB rfl ?_)⟩
      exact ⟨_, Ld, World.putObj_heap_same hlt, hB, rfl, rfl, h3, h4, h5, h6, h7, h8⟩
    · cases he
      refine ⟨_, _, run_endRound (some .ret) hb, hR _ (S.hp.putObj hl hL (fun _ _ _ _ e => by cases e) (fun _ _ _ _ e => by cases e) hB rfl ?_)⟩
      exact ⟨_, Ld, World.putObj_heap_same hlt, hB, rfl, rfl, h3, h4, h5, h6, h7, h8⟩
    · rename_i id
      cases he
      refine ⟨_, _, run_endRound (some (.exit id)) hb, hR _ (S.hp.putObj hl hL (fun _ _ _ _ e => by cases e) (fun _ _ _ _ e => by cases e) hB rfl ?_)⟩
      exact ⟨_, Ld, World.putObj_heap_same hlt, hB, rfl, rfl, h3, h4, h5, h6, h7, h8⟩
    · cases he
  · cases he

theorem evYld_ok (K : CfgOK C B w0) (RC : CallOK C R B w0) (RY : YldOK C R B w0) {l : Nat} {args : List AV} {h : Hp} {b : Bool} {h' : Hp} (e : evYld C R l args h = some (b, h')) (w : World) (c : Ctx) (args' : List Value) (L : Loc) (G : GR C c) (H : HR B w0 c h w) (hA : VRs c args args') (hL : c l = some L) :
    ∃ f tmps assign body, (Instr.yield L.blk ⟨args'⟩).run C.P w = .ok (.round L.blk f tmps assign body) w ∧ RoundIn Fence.wide 0 C.P L.blk f tmps assign body w (CPost B w0 c (.bool b) h') := by
  unfold evYld at e
  split at e
  · rename_i pend tm n ps as bd d hl
    obtain ⟨L', hL', r, Ld, hb, hB, h1, h2, h3, h4, h5, h6, h7, h8⟩ := H.obj _ _ hl
    rw [hL] at hL'; cases hL'
    split at e
    · rename_i tm' hset
      obtain ⟨T', hlen⟩ := setAll_TR hset hA h3
      have hps : r.params.size = ps.length := by rw [← h4]; simp
      refine ⟨_, _, _, _, run_yield hb (by rw [hps, hlen]; rfl), ?_⟩
      refine roundIn_of_wpIn trivial ?_
      split at e
      · rename_i s1 hs1
        split at e
        · rename_i pend2 tm2 n2 ps2 a2 b2 d2 hl1
          have hT : TR c (tmf tm') ((r.params.zip ⟨args'⟩).foldl (fun tmps (t, a) => tmps.setIfInBounds t a) r.tmps) n := by
            have : (r.params.zip (⟨args'⟩ : Array Value)).toList = ps.zip args' := by rw [Array.toList_zip, h4]
            rw [← Array.foldl_toList, this]
            exact T'
          refine evCode_sound (R := R) (ro := some l) (roC := some L.blk) K.mixed RC RY K.ext _ c { tm := tm', n, hp := h, df := [] } { tmps := _, defers := [] } w .normal s1 _ G ⟨L, hL, rfl⟩ ⟨hT, H, .nil⟩ (by rw [h5]; exact hs1) fun c1 act1 w1 hle1 S1 => ?_
          obtain ⟨L1, hL1, r1, Ld1, hb1, hB1, g1, g2, g3, g4, g5, g6, g7, g8⟩ := S1.hp.obj _ _ hl1
          have hLc := hle1 _ _ hL
          rw [hLc] at hL1; cases hL1
          refine ⟨_, run_beginRound hb1 g1, ?_⟩
          have H2 := S1.hp.putObj (o' := .loop .busy pend2 tm2 n2 ps2 a2 b2 d2) (O' := .loop { r1 with state := .busy }) hl1 hLc (fun _ _ _ _ e => by cases e) (fun _ _ _ _ e => by cases e) hB1 rfl
            ⟨_, Ld1, World.putObj_heap_same (S1.hp.lt _ _ hLc), hB1, rfl, g2, g3, g4, g5, g6, g7, g8⟩
          cases hc : evCode C R (some l) bd { s1 with hp := s1.hp.put l (.loop .busy pend2 tm2 n2 ps2 a2 b2 d2) } with
          | none => rw [hc] at e; cases e
          | some q =>
            obtain ⟨ex, s2⟩ := q
            rw [hc] at e
            refine evCode_sound (R := R) (ro := some l) (roC := some L.blk) K.mixed RC RY K.ext _ c1 { s1 with hp := s1.hp.put l (.loop .busy pend2 tm2 n2 ps2 a2 b2 d2) } act1 _ ex s2 _ (G.mono hle1) ⟨L, hLc, rfl⟩ ⟨S1.tm, H2, S1.df⟩ (by rw [h6]; exact hc) fun c3 act3 w3 hle3 S3 => ?_
            exact endR_ok (hle3 _ _ hLc) e S3 fun w4 H4 => ⟨c3, Ctx.le_trans hle1 hle3, .bool b, H4⟩
        · cases e
      · cases e
    · cases e
  · cases e

theorem evRec_ok (K : CfgOK C B w0) : ∀ d, CallOK C (evRec C d) B w0 ∧ YldOK C (evRec C d) B w0
  | 0 => ⟨fun _ _ _ f args h v h' e => (by cases e), fun _ _ _ l args h b h' e => (by cases e)⟩
  | d + 1 => by
    obtain ⟨RC, RY⟩ := evRec_ok K d
    exact ⟨fun B' w1 s f args h v h' e w c args' G H hA => evFun_ok (K.sub s) (RC.sub s) (RY.sub s) e w c args' G H hA,
      fun B' w1 s l args h b h' e w c args' L G H hA hL => evYld_ok (K.sub s) (RC.sub s) (RY.sub s) e w c args' L G H hA hL⟩
end
end Go.Ev
