/-
  The evaluator's operations, guards and regions in order, walked in the machine.
-/
import Derived.Test.YtjggeombkbianaaEvN
import Derived.RangeFuncRecord
import Derived.OrdersIn
import Derived.LoopNIn
namespace Go.Ev
open Go Go.RowKit

/-- Anywhere; in a round, or in none. -/
noncomputable def fen (ro : Option Nat) : Fence := { Fence.wide with round := ro }

/-- What a call leaves. -/
noncomputable def CPost (B : Kp) (w0 : World) (c : Ctx) (v : AV) (h' : Hp) : Ending → World → Prop
  | .returned u, w' => ∃ c', Ctx.le c c' ∧ VR c' v u ∧ HR B w0 c' h' w'
  | _, _ => False
/-- A later world, in which no less is kept. -/
structure Sub (B : Kp) (w0 : World) (B' : Kp) (w1 : World) : Prop where
  kept : Keep B.keep w0 w1
  more : ∀ k, B.keep k → B'.keep k
theorem Sub.refl (B : Kp) (w0 : World) : Sub B w0 B w0 := ⟨Keep.refl _ _, fun _ h => h⟩
theorem Sub.trans {B B' B'' : Kp} {w0 w1 w2 : World} (h : Sub B w0 B' w1) (k : Sub B' w1 B'' w2) : Sub B w0 B'' w2 :=
  ⟨h.kept.trans (k.kept.mono h.more), fun b hb => k.more b (h.more b hb)⟩
def CallOK (C : Cfg) (R : Rec) (B : Kp) (w0 : World) : Prop := ∀ (B' : Kp) (w1 : World), Sub B w0 B' w1 → ∀ f args h v h', R.call f args h = some (v, h') → ∀ (w : World) (c : Ctx) (args' : List Value), GR C c → HR B' w1 c h w → VRs c args args' →
  (callFunc f ⟨args'⟩).run C.P w = .ok (.enter f ⟨args'⟩) w ∧ CallsIn Fence.wide 0 C.P f ⟨args'⟩ w (CPost B' w1 c v h')
def YldOK (C : Cfg) (R : Rec) (B : Kp) (w0 : World) : Prop := ∀ (B' : Kp) (w1 : World), Sub B w0 B' w1 → ∀ l args h b h', R.yld l args h = some (b, h') → ∀ (w : World) (c : Ctx) (args' : List Value) (L : Loc), GR C c → HR B' w1 c h w → VRs c args args' → c l = some L →
  ∃ f tmps assign body, (Instr.yield L.blk ⟨args'⟩).run C.P w = .ok (.round L.blk f tmps assign body) w ∧ RoundIn Fence.wide 0 C.P L.blk f tmps assign body w (CPost B' w1 c (.bool b) h')
theorem CallOK.sub {C : Cfg} {R : Rec} {B B' : Kp} {w0 w1 : World} (h : CallOK C R B w0) (s : Sub B w0 B' w1) : CallOK C R B' w1 := fun B2 w2 s2 => h B2 w2 (s.trans s2)
theorem YldOK.sub {C : Cfg} {R : Rec} {B B' : Kp} {w0 w1 : World} (h : YldOK C R B w0) (s : Sub B w0 B' w1) : YldOK C R B' w1 := fun B2 w2 s2 => h B2 w2 (s.trans s2)
def ExtOK (C : Cfg) : Prop := ∀ f g, C.ext f = some g → ∀ args h v h', g args h = some (v, h') → ∀ (B : Kp) (w0 w : World) (c : Ctx) (args' : List Value), HR B w0 c h w → VRs c args args' →
  ∃ c' w' u, (callFunc f ⟨args'⟩).run C.P w = .ok (.value u) w' ∧ Ctx.le c c' ∧ VR c' v u ∧ HR B w0 c' h' w'

theorem put_hp (s : St) (dst : Option Tmp) (v : AV) : (s.put dst v).hp = s.hp := by
  unfold St.put; split
  · split <;> rfl
  · rfl
theorem put_n (s : St) (dst : Option Tmp) (v : AV) : (s.put dst v).n = s.n := by
  unfold St.put; split
  · split <;> rfl
  · rfl
theorem put_df (s : St) (dst : Option Tmp) (v : AV) : (s.put dst v).df = s.df := by
  unfold St.put; split
  · split <;> rfl
  · rfl
theorem put_tm (s : St) (h : Hp) (dst : Option Tmp) (v : AV) : (({ s with hp := h } : St).put dst v).tm = (s.put dst v).tm := by
  unfold St.put; split
  · simp only []; split <;> rfl
  · rfl

section
variable {C : Cfg} {R : Rec} {B : Kp} {w0 w : World} {c : Ctx} {s s' : St} {act : Act} {o : Oper} {ro : Option Nat}

theorem aOp_nodefer {r : ANext × Hp} (e : aOp C s o = some r) : ∀ k, o.op ≠ .defer k := by
  intro k hk
  unfold aOp at e
  rw [hk] at e
  cases e

theorem evOp_sound (RC : CallOK C R B w0) (RY : YldOK C R B w0) (RE : ExtOK C) (G : GR C c) (hv : OV C c s act o.op.operands.toList) (H : HR B w0 c s.hp w) (e : evOp C R s o = some s') {K : Act → World → Prop} {Q : Exit → Act → World → Prop}
    (hK : ∀ c' w' u v, Ctx.le c c' → VR c' v u → HR B w0 c' s'.hp w' → s' = ({ s with hp := s'.hp } : St).put o.dst v → K (act.put o.dst u) w') : o.wpIn (fen ro) 0 C.P act w K Q := by
  unfold evOp at e
  refine ⟨fun _ _ => trivial, ?_⟩
  cases ha : aOp C s o with
  | none => rw [ha] at e; cases e
  | some r =>
    obtain ⟨n, h1⟩ := r
    rw [Oper.semAt_eq _ _ _ (aOp_nodefer ha)]
    have hop := aOp_run hv H ha
    rw [ha] at e
    have fin : ∀ v h, (({ s with hp := h } : St).put o.dst v) = s' → s' = ({ s with hp := s'.hp } : St).put o.dst v ∧ s'.hp = h := fun v h hs => by
      subst hs
      rw [put_hp]
      exact ⟨rfl, rfl⟩
    cases n with
    | val v =>
      simp only [Option.some.injEq] at e
      obtain ⟨c', w', u, hrun, hle, hvr, H'⟩ := hop
      obtain ⟨hs, hh⟩ := fin v h1 e
      rw [hrun]
      exact hK c' w' u v hle hvr (hh ▸ H') hs
    | skip =>
      simp only [Option.some.injEq] at e
      obtain ⟨c', w', hrun, hle, H'⟩ := hop
      obtain ⟨hs, hh⟩ := fin .undef h1 e
      rw [hrun]
      exact hK c' w' Go.undef .undef hle (VR.undef c') (hh ▸ H') hs
    | enter f args =>
      obtain ⟨args', hargs, hrun, H'⟩ := hop
      simp only at e
      rw [hrun]
      split at e
      · rename_i g hg
        split at e
        · rename_i v h2 hgv
          simp only [Option.some.injEq] at e
          obtain ⟨c', w', u, hcall, hle, hvr, H2⟩ := RE f g hg args h1 v h2 hgv B w0 w c args' H' hargs
          obtain ⟨hs, hh⟩ := fin v h2 e
          rw [hcall]
          exact hK c' w' u v hle hvr (hh ▸ H2) hs
        · cases e
      · split at e
        · rename_i v h2 hcv
          simp only [Option.some.injEq] at e
          obtain ⟨hcall, hin⟩ := RC B w0 (Sub.refl _ _) f args h1 v h2 hcv w c args' G H' hargs
          obtain ⟨hs, hh⟩ := fin v h2 e
          rw [hcall]
          refine ⟨fun hd => by simp [fen, Fence.wide] at hd, CallsIn.mono (show CallsIn (fen ro) (0 - 1) C.P f ⟨args'⟩ w (CPost B w0 c v h2) from hin) fun ed w' hp => ?_⟩
          cases ed with
          | returned u =>
            obtain ⟨c', hle, hvr, H2⟩ := hp
            exact hK c' w' u v hle hvr (hh ▸ H2) hs
          | panicked ch => exact hp.elim
          | outgrown => exact hp.elim
        · cases e
    | yld l args =>
      obtain ⟨L, args', hL, hargs, hrun, H'⟩ := hop
      simp only at e
      rw [hrun]
      split at e
      · rename_i b h2 hyl
        simp only [Option.some.injEq] at e
        obtain ⟨f, tmps, asg, body, hy, hin⟩ := RY B w0 (Sub.refl _ _) l args h1 b h2 hyl w c args' L G H' hargs hL
        obtain ⟨hs, hh⟩ := fin (.bool b) h2 e
        rw [hy]
        refine ⟨fun hd => by simp [fen, Fence.wide] at hd, RoundIn.mono (show RoundIn (fen ro) (0 - 1) C.P L.blk f tmps asg body w (CPost B w0 c (.bool b) h2) from hin) fun ed w' hp => ?_⟩
        cases ed with
        | returned u =>
          obtain ⟨c', hle, hvr, H2⟩ := hp
          exact hK c' w' u (.bool b) hle hvr (hh ▸ H2) hs
        | panicked ch => exact hp.elim
        | outgrown => exact hp.elim
      · cases e

/-! Guards. -/
/-- What an operation looks at, the guard's outcome among it. -/
def LV (c : Ctx) (s : St) (act : Act) (l : List Tmp) : Prop := ∀ t ∈ l, VR c (tmf s.tm t) (act.tmps.getD t Go.undef)

theorem LV.ov (G : GR C c) {ops : List Oper} (h : LV c s act (looksOf ops o)) : OV C c s act o.op.operands.toList :=
  OV.of G fun t ht => h t (by
    unfold looksOf
    refine List.mem_append_left _ (List.mem_filterMap.2 ⟨.tmp t, ht, rfl⟩))

theorem aWanted_run {ops : Array Oper} (h : LV c s act (looksOf ops.toList o)) {b : Bool} (e : aWanted ops.toList s o = some b) : Region.wanted o (yielded ops act.tmps) = b := by
  unfold aWanted at e
  unfold Region.wanted
  split at e
  · rename_i hg; rw [hg]; cases e; rfl
  · rename_i j want hg
    rw [hg]
    simp only []
    split at e
    · rename_i oj hoj
      have hoj' : ops[j]? = some oj := by simpa using hoj
      split at e
      · rename_i d hd
        have hl := h d (by
          unfold looksOf
          refine List.mem_append_right _ ?_
          rw [hg]
          simp [hoj', hd])
        have hy : yielded ops act.tmps j = match act.tmps[d]? with | some (.bool b) => some b | _ => none := by
          unfold yielded
          rw [hoj', Option.bind_some, hd, Option.bind_some]
          cases act.tmps[d]? with
          | none => rfl
          | some v => cases v <;> rfl
        rw [hy]
        rw [Array.getD_eq_getD_getElem?] at hl
        unfold tmf at hl
        split at e
        · rename_i b' hb'
          rw [hb'] at hl
          cases e
          cases hv : act.tmps[d]? with
          | none => rw [hv] at hl; simp [Go.undef] at hl; cases hl
          | some v =>
            rw [hv] at hl
            simp only [Option.getD_some] at hl
            cases hl
            cases b' <;> cases want <;> rfl
        · cases e
        · rename_i h1 h2
          cases e
          cases hv : act.tmps[d]? with
          | none => simp
          | some v =>
            rw [hv] at hl
            simp only [Option.getD_some] at hl
            cases hg2 : s.tm.get d with
            | none => rw [hg2] at hl; simp only [Option.getD_none, AV.undef] at hl; cases hl; simp
            | some x =>
              rw [hg2] at hl
              simp only [Option.getD_some] at hl
              cases hl <;> first | (simp; done) | exact absurd hg2 (h1 _) | exact absurd hg2 h2
      · rename_i hd
        cases e
        have hy : yielded ops act.tmps j = none := by
          unfold yielded
          rw [hoj', Option.bind_some, hd]; rfl
        rw [hy]; rfl
    · rename_i hoj
      cases e
      have hoj' : ops[j]? = none := by simpa using hoj
      have hy : yielded ops act.tmps j = none := by
        unfold yielded
        rw [hoj']; rfl
      rw [hy]; rfl

theorem evStep_sound (RC : CallOK C R B w0) (RY : YldOK C R B w0) (RE : ExtOK C) (G : GR C c) {ops : Array Oper} {i : Nat} (hi : ops[i]? = some o) (hl : LV c s act (looksOf ops.toList o)) (H : HR B w0 c s.hp w) (e : evStep C R ops.toList s o = some s') {K : Act → World → Prop} {Q : Exit → Act → World → Prop}
    (hK : ∀ c' w' u v, Ctx.le c c' → VR c' v u → HR B w0 c' s'.hp w' → s' = ({ s with hp := s'.hp } : St).put o.dst v → K (act.put o.dst u) w') : wpOpIn (fen ro) 0 C.P ops Q i K act w := by
  unfold evStep at e
  unfold wpOpIn
  simp only [hi]
  split at e
  · rename_i hw
    rw [aWanted_run hl hw]
    exact evOp_sound RC RY RE G (hl.ov G) H e hK
  · rename_i hw
    rw [aWanted_run hl hw]
    simp only [Option.some.injEq] at e
    refine ⟨fun _ _ => trivial, hK c w Go.undef .undef (Ctx.le_refl c) (VR.undef c) ?_ ?_⟩
    · rw [← e, put_hp]; exact H
    · rw [← e, put_hp]
  · cases e

theorem TR.put {f : Nat → AV} {tmps : Array Value} {n : Nat} (T : TR c f tmps n) {d : Tmp} {v : AV} {u : Value} (h : VR c v u) (hd : d < n) {g : Nat → AV} (hg : ∀ t, g t = if t = d then v else f t) : TR c g (tmps.setIfInBounds d u) n := by
  refine ⟨by simp [T.size], fun t ht => ?_, fun t ht => by
    have hne : ¬ t = d := fun e => by subst e; exact absurd hd (Nat.not_lt.2 ht)
    rw [hg, if_neg hne]; exact T.out t ht⟩
  rw [hg]
  by_cases e : t = d
  · subst e
    rw [if_pos rfl]
    exact ⟨u, by rw [Array.getElem?_setIfInBounds_self_of_lt (by rw [T.size]; exact ht)], h⟩
  · rw [if_neg e, Array.getElem?_setIfInBounds_ne (fun h => e h.symm)]
    exact T.val t ht
theorem tmf_set (tm : Tr AV) (d : Nat) (v : AV) (t : Nat) : tmf (tm.set d v) t = if t = d then v else tmf tm t := by
  unfold tmf
  rw [Tr.get_set]
  split <;> rfl
theorem TR.stput (T : TR c (tmf s.tm) act.tmps s.n) {dst : Option Tmp} {v : AV} {u : Value} (h : VR c v u) : TR c (tmf (s.put dst v).tm) (act.put dst u).tmps s.n := by
  cases dst with
  | none => exact T
  | some d =>
    simp only [St.put, Act.put]
    split
    · rename_i hd
      exact T.put h hd (tmf_set _ _ _)
    · rename_i hd
      have : act.tmps.setIfInBounds d u = act.tmps := by
        apply Array.setIfInBounds_eq_of_size_le
        rw [T.size]; exact Nat.le_of_not_lt hd
      rw [this]; exact T

inductive DR (c : Ctx) : List Nat → List Deferred → Prop
  | nil : DR c [] []
  | cons {d : Nat} {L : Loc} {ds : List Nat} {Ds : List Deferred} (h : c d = some L) (t : DR c ds Ds) : DR c (d :: ds) ({ target := .collected L.blk, args := #[] } :: Ds)
theorem DR.mono {c d : Ctx} (hcd : Ctx.le c d) : ∀ {a : List Nat} {b : List Deferred}, DR c a b → DR d a b
  | _, _, .nil => .nil
  | _, _, .cons h t => .cons (hcd _ _ h) (t.mono hcd)

/-- A state of an activation. -/
structure SR (B : Kp) (w0 : World) (c : Ctx) (s : St) (act : Act) (w : World) : Prop where
  tm : TR c (tmf s.tm) act.tmps s.n
  hp : HR B w0 c s.hp w
  df : DR c s.df act.defers

theorem put_defers (act : Act) (dst : Option Tmp) (u : Value) : (act.put dst u).defers = act.defers := by
  cases dst <;> rfl

theorem evOps_sound (RC : CallOK C R B w0) (RY : YldOK C R B w0) (RE : ExtOK C) {ops : Array Oper} {Q : Exit → Act → World → Prop} : ∀ (rest : List Oper) (k : Nat) (c : Ctx) (s s' : St) (act : Act) (w : World),
    ops.toList.drop k = rest → GR C c → SR B w0 c s act w → evOps C R ops.toList rest s = some s' →
    (∀ c' act' w', Ctx.le c c' → SR B w0 c' s' act' w' → Q .normal act' w') → wpOpsIn (fen ro) 0 C.P ops Q (List.range' k rest.length) act w
  | [], k, c, s, s', act, w, _, G, S, e, hQ => by
    cases e
    exact hQ c act w (Ctx.le_refl c) S
  | o :: rest, k, c, s, s', act, w, hd, G, S, e, hQ => by
    simp only [evOps] at e
    split at e
    · rename_i s1 hs1
      have hk : ops[k]? = some o := by
        have : (ops.toList.drop k)[0]? = some o := by rw [hd]; rfl
        simpa using this
      have hd' : ops.toList.drop (k + 1) = rest := by
        have := congrArg List.tail hd
        simpa using this
      simp only [List.length_cons, List.range'_succ]
      rw [wpOpsIn_cons]
      refine evStep_sound RC RY RE G hk (fun t _ => S.tm.getD t) S.hp hs1 fun c' w' u v hle hvr H' hs => ?_
      refine evOps_sound RC RY RE rest (k + 1) c' s1 s' _ w' hd' (G.mono hle) ⟨?_, H', ?_⟩ e fun c2 act2 w2 hle2 S2 => hQ c2 act2 w2 (Ctx.le_trans hle hle2) S2
      · have := TR.stput (s := s) (S.tm.mono hle) (dst := o.dst) hvr
        rw [hs, put_tm, put_n]
        exact this
      · rw [hs, put_df, put_defers]
        exact S.df.mono hle
    · cases e
end
end Go.Ev
