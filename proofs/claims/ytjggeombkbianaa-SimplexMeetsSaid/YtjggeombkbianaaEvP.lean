/-
  A region whose order is open: whatever the order, the same comes of it.
-/
import Derived.Test.YtjggeombkbianaaEvO
namespace Go.Ev
open Go Go.RowKit

section
variable {C : Cfg} {R : Rec} {B : Kp} {w0 w : World} {c : Ctx} {ro : Option Nat}

/-! One step of the trace. -/
theorem evOp_put {s s' : St} {o : Oper} (e : evOp C R s o = some s') : ∃ v, s' = ({ s with hp := s'.hp } : St).put o.dst v := by
  have fin : ∀ v h, (({ s with hp := h } : St).put o.dst v) = s' → s' = ({ s with hp := s'.hp } : St).put o.dst v := fun v h hs => by
    subst hs
    rw [put_hp]
  unfold evOp at e
  split at e
  · simp only [Option.some.injEq] at e; exact ⟨_, fin _ _ e⟩
  · simp only [Option.some.injEq] at e; exact ⟨_, fin _ _ e⟩
  · split at e
    · split at e
      · simp only [Option.some.injEq] at e; exact ⟨_, fin _ _ e⟩
      · cases e
    · split at e
      · simp only [Option.some.injEq] at e; exact ⟨_, fin _ _ e⟩
      · cases e
  · split at e
    · simp only [Option.some.injEq] at e; exact ⟨_, fin _ _ e⟩
    · cases e
  · cases e
theorem evStep_put {ops : List Oper} {s s' : St} {o : Oper} (e : evStep C R ops s o = some s') : ∃ v, s' = ({ s with hp := s'.hp } : St).put o.dst v := by
  unfold evStep at e
  split at e
  · exact evOp_put e
  · simp only [Option.some.injEq] at e
    refine ⟨.undef, ?_⟩
    rw [← e, put_hp]
  · cases e
theorem tmf_put (s : St) (h : Hp) (dst : Option Tmp) (v : AV) (t : Nat) : tmf (({ s with hp := h } : St).put dst v).tm t = if dst = some t ∧ t < s.n then v else tmf s.tm t := by
  rw [put_tm]
  cases dst with
  | none => simp [St.put]
  | some d =>
    simp only [St.put]
    by_cases hd : d < s.n
    · rw [if_pos hd]
      simp only [tmf_set, Option.some.injEq]
      by_cases e : t = d
      · subst e; simp [hd]
      · rw [if_neg e, if_neg (fun h => e h.1.symm)]
    · rw [if_neg hd, if_neg]
      rintro ⟨e, hlt⟩
      cases e
      exact hd hlt
theorem TR.actput {n : Nat} {f g : Nat → AV} {act : Act} (T : TR c f act.tmps n) {dst : Option Tmp} {v : AV} {u : Value} (h : VR c v u) (hg : ∀ t, g t = if dst = some t ∧ t < n then v else f t) : TR c g (act.put dst u).tmps n := by
  cases dst with
  | none =>
    have : g = f := funext fun t => by rw [hg]; simp
    rw [this]; exact T
  | some d =>
    by_cases hd : d < n
    · refine T.put h hd fun t => ?_
      rw [hg]
      by_cases e : t = d
      · subst e; rw [if_pos ⟨rfl, hd⟩, if_pos rfl]
      · rw [if_neg (fun h => e (Option.some.inj h.1).symm), if_neg e]
    · have he : act.tmps.setIfInBounds d u = act.tmps := by
        apply Array.setIfInBounds_eq_of_size_le
        rw [T.size]; exact Nat.le_of_not_lt hd
      have : g = f := funext fun t => by
        rw [hg, if_neg]
        rintro ⟨e, hlt⟩
        cases e
        exact hd hlt
      rw [this]
      show TR c f (act.tmps.setIfInBounds d u) n
      rw [he]; exact T

/-! An operation that reads at most. -/
theorem ofO_obs {o : Option AV} {h h' : Hp} {n : ANext} (e : ANext.ofO o h = some (n, h')) : h' = h ∧ ∃ v, n = .val v := by
  cases o with
  | none => cases e
  | some v => cases e; exact ⟨rfl, v, rfl⟩
theorem o1_obs {f : AV → Option AV} {o : Option AV} {h h' : Hp} {n : ANext} (e : o1 f h o = some (n, h')) : h' = h ∧ ∃ v, n = .val v := by
  cases o with
  | none => cases e
  | some v => exact ofO_obs (o := f v) e
theorem o2_obs {f : AV → AV → Option AV} {o p : Option AV} {h h' : Hp} {n : ANext} (e : o2 f h o p = some (n, h')) : h' = h ∧ ∃ v, n = .val v := by
  cases o with
  | none => cases e
  | some v =>
    cases p with
    | none => cases e
    | some x => exact ofO_obs (o := f v x) e

theorem isObs_obs {s : St} {o : Oper} (ho : isObs o = true) {n : ANext} {h' : Hp} (e : aOp C s o = some (n, h')) : h' = s.hp ∧ ∃ v, n = .val v := by
  obtain ⟨dst, op, type, pos, after, guard⟩ := o
  unfold aOp at e
  unfold isObs at ho
  cases op <;> simp only at e ho <;> first | (cases ho; done) | (exact ofO_obs e) | (exact o1_obs e) | (exact o2_obs e) | skip
  case pick c a b =>
    unfold oPick at e
    split at e
    · exact ofO_obs e
    · exact ofO_obs e
    · cases e
  case build t ps =>
    cases hp : parts C s ps.toList with
    | none => rw [hp] at e; cases e
    | some vs => rw [hp] at e; exact ofO_obs (o := aBuild C.P t vs) e
  case nilCheck x =>
    unfold oNil at e
    split at e
    · cases e; exact ⟨rfl, _, rfl⟩
    · cases e; exact ⟨rfl, _, rfl⟩
    · cases e; exact ⟨rfl, _, rfl⟩
    · cases e
  case makeFunc fn first captured =>
    unfold oMakeFunc at e
    split at e
    · cases e; exact ⟨rfl, _, rfl⟩
    · cases e
  case convert src dst x =>
    cases hx : s.opd C x with
    | none => rw [hx] at e; cases e
    | some v =>
      rw [hx] at e
      simp only [oConvert, aConvert, ho, cond_true] at e
      cases hv : aConvInt C src dst v with
      | none => rw [hv] at e; cases e
      | some u => rw [hv] at e; cases e; exact ⟨rfl, _, rfl⟩
  case slice t x lo hi mx =>
    unfold oSlice at e
    split at e
    · exact ofO_obs e
    · cases e
  case call k =>
    unfold oCall at e
    split at e
    · split at ho <;> rename_i hb
      · rw [hb] at e; simp only at e; unfold aBuiltin at e
        split at e <;> first | (exact ofO_obs e) | (rename_i h1 h2; cases h1; done) | (cases e; done) | (cases e; exact ⟨rfl, _, rfl⟩)
      · rw [hb] at e; simp only at e; unfold aBuiltin at e
        split at e <;> first | (exact ofO_obs e) | (rename_i h1 h2; cases h1; done) | (cases e; done) | (cases e; exact ⟨rfl, _, rfl⟩)
      · rw [hb] at e; simp only at e; unfold aBuiltin at e
        split at e <;> first | (exact ofO_obs e) | (rename_i h1 h2; cases h1; done) | (cases e; done) | (cases e; exact ⟨rfl, _, rfl⟩)
      · rw [hb] at e; simp only at e; unfold aBuiltin at e
        split at e <;> first | (exact ofO_obs e) | (rename_i h1 h2; cases h1; done) | (cases e; done) | (cases e; exact ⟨rfl, _, rfl⟩)
      · rw [hb] at e; simp only at e; unfold aBuiltin at e
        split at e <;> first | (exact ofO_obs e) | (rename_i h1 h2; cases h1; done) | (cases e; done) | (cases e; exact ⟨rfl, _, rfl⟩)
      · cases ho
    · cases e

theorem opds_hp (s : St) (h : Hp) : ∀ xs, opds C { s with hp := h } xs = opds C s xs
  | [] => rfl
  | x :: xs => by
    simp only [opds, opds_hp s h xs]
    rfl
theorem parts_hp (s : St) (h : Hp) : ∀ xs, parts C { s with hp := h } xs = parts C s xs
  | [] => rfl
  | (i, x) :: xs => by
    simp only [parts, parts_hp s h xs]
    rfl
theorem ofO_free {o : Option AV} {h h' : Hp} {n : ANext} (e : ANext.ofO o h = some (n, h')) (k : Hp) : ∃ v, n = .val v ∧ ANext.ofO o k = some (.val v, k) := by
  cases o with
  | none => cases e
  | some v => cases e; exact ⟨v, rfl, rfl⟩
theorem o1_free {f : AV → Option AV} {o : Option AV} {h h' : Hp} {n : ANext} (e : o1 f h o = some (n, h')) (k : Hp) : ∃ v, n = .val v ∧ o1 f k o = some (.val v, k) := by
  cases o with
  | none => cases e
  | some v => exact ofO_free (o := f v) e k
theorem o2_free {f : AV → AV → Option AV} {o p : Option AV} {h h' : Hp} {n : ANext} (e : o2 f h o p = some (n, h')) (k : Hp) : ∃ v, n = .val v ∧ o2 f k o p = some (.val v, k) := by
  cases o with
  | none => cases e
  | some v =>
    cases p with
    | none => cases e
    | some x => exact ofO_free (o := f v x) e k
theorem free_op {s : St} {o : Oper} (ho : isFree o = true) {n : ANext} {h' : Hp} (e : aOp C s o = some (n, h')) (k : Hp) : ∃ v, n = .val v ∧ aOp C { s with hp := k } o = some (.val v, k) := by
  obtain ⟨dst, op, type, pos, after, guard⟩ := o
  unfold aOp at e ⊢
  unfold isFree at ho
  cases op <;> simp only at e ho ⊢ <;> first | (cases ho; done) | (exact ofO_free e k) | (exact o1_free e k) | (exact o2_free e k) | skip
  case pick c a b =>
    have hb : oPick C { s with hp := k } c a b = (match s.opd C c with | some (.bool true) => ANext.ofO (s.opd C a) k | some (.bool false) => ANext.ofO (s.opd C b) k | _ => none) := rfl
    rw [hb]
    unfold oPick at e
    split at e
    · rename_i h1; rw [h1]; exact ofO_free e k
    · rename_i h1; rw [h1]; exact ofO_free e k
    · cases e
  case build t ps =>
    rw [parts_hp]
    cases hp : parts C s ps.toList with
    | none => rw [hp] at e; cases e
    | some vs => rw [hp] at e; exact ofO_free (o := aBuild C.P t vs) e k
  case nilCheck x =>
    have hx : ({ s with hp := k } : St).opd C x = s.opd C x := rfl
    rw [hx]
    unfold oNil at e ⊢
    split at e
    · cases e; exact ⟨_, rfl, rfl⟩
    · cases e; exact ⟨_, rfl, rfl⟩
    · cases e; exact ⟨_, rfl, rfl⟩
    · cases e
  case convert src dst x =>
    have hx : ({ s with hp := k } : St).opd C x = s.opd C x := rfl
    rw [hx]
    cases hx : s.opd C x with
    | none => rw [hx] at e; cases e
    | some v =>
      rw [hx] at e
      simp only [oConvert, aConvert, ho, cond_true] at e ⊢
      cases hv : aConvInt C src dst v with
      | none => rw [hv] at e; cases e
      | some u => rw [hv] at e; cases e; exact ⟨_, rfl, rfl⟩
  case makeFunc fn first captured =>
    rw [opds_hp s k first.toList, opds_hp s k captured.toList]
    cases hf : opds C s first.toList with
    | none => rw [hf] at e; cases fn <;> cases e
    | some a =>
      cases hc : opds C s captured.toList with
      | none => rw [hf, hc] at e; cases fn <;> cases e
      | some b =>
        rw [hf, hc] at e
        cases fn <;> simp only [oMakeFunc] at e <;> try (cases e; done)
        cases e
        exact ⟨_, rfl, rfl⟩

/-! What precedes what. -/
noncomputable def edgesAt (ops : List Oper) (j : Nat) : List Nat := match ops[j]? with
  | some o => edgesOf o
  | none => []
def Closed (ops : List Oper) (D : Nat → Prop) : Prop := ∀ j, D j → ∀ e ∈ edgesAt ops j, D e
def Pre (ops : List Oper) (i j : Nat) : Prop := i < j ∧ ∀ D, Closed ops D → (∀ e ∈ edgesAt ops j, D e) → D i
theorem presGo_spec (ops : List Oper) (hS : ∀ j, ∀ i ∈ edgesAt ops j, i < j) : ∀ (rest : List Oper) (acc : List (List Nat)), ops.drop acc.length = rest →
    (∀ j, ∀ i ∈ acc.getD j [], Pre ops i j) → ∀ j, ∀ i ∈ (presGo rest acc).getD j [], Pre ops i j
  | [], acc, _, h => h
  | o :: rest, acc, hd, h => by
    simp only [presGo]
    have ho : ops[acc.length]? = some o := by
      have : (ops.drop acc.length)[0]? = some o := by rw [hd]; rfl
      simpa using this
    have hE : edgesAt ops acc.length = edgesOf o := by unfold edgesAt; rw [ho]
    refine presGo_spec ops hS rest _ (by
      have := congrArg List.tail hd
      simpa using this) fun j i hi => ?_
    by_cases hj : j < acc.length
    · refine h j i ?_
      simpa [List.getD_eq_getElem?_getD, List.getElem?_append_left hj] using hi
    · by_cases hj' : j = acc.length
      · subst hj'
        rw [List.getD_eq_getElem?_getD, List.getElem?_append_right (Nat.le_refl _)] at hi
        simp only [Nat.sub_self, List.getElem?_cons_zero, Option.getD_some, List.mem_append, List.mem_flatMap] at hi
        rcases hi with hi | ⟨e, he, hi⟩
        · exact ⟨hS _ _ (hE ▸ hi), fun D _ hD => hD i (hE ▸ hi)⟩
        · obtain ⟨hlt, hP⟩ := h e i hi
          have hE2 : e ∈ edgesAt ops acc.length := hE ▸ he
          exact ⟨Nat.lt_trans hlt (hS _ _ hE2), fun D hc hD => hP D hc (hc e (hD e hE2))⟩
      · rw [List.getD_eq_getElem?_getD, List.getElem?_eq_none (by simp; omega)] at hi
        simp at hi
theorem preB_spec {ops : List Oper} (hS : ∀ j, ∀ i ∈ edgesAt ops j, i < j) {i j : Nat} (h : preB (pres ops) i j = true) : Pre ops i j := by
  unfold preB at h
  refine presGo_spec ops hS ops [] rfl (fun j i hi => by simp at hi) j i ?_
  simpa [pres] using h

/-- A row that floats. -/
def Flt (ops : List Oper) (k : Nat) : Prop := ∃ o, ops[k]? = some o ∧ isAl o = true ∧ ∃ e oe, e < k ∧ ops[e]? = some oe ∧ isObs oe = false ∧ preB (pres ops) e k = false
theorem Flt.mem {ops : List Oper} {k : Nat} (hk : Flt ops k) : k ∈ flts ops (pres ops) := by
  obtain ⟨o, hko, hal, e, oe, hlt, hoe, hobs, hpre⟩ := hk
  unfold flts
  rw [List.mem_filterMap]
  refine ⟨(o, k), List.mem_zipIdx_iff_getElem?.2 hko, ?_⟩
  have hany : ops.zipIdx.any (fun y => Nat.blt y.2 k && !isObs y.1 && !preB (pres ops) y.2 k) = true := by
    rw [List.any_eq_true]
    exact ⟨(oe, e), List.mem_zipIdx_iff_getElem?.2 hoe, by simp only [hobs, hpre, Bool.not_false, Bool.and_true]; exact Nat.ble_eq_true_of_le hlt⟩
  simp only [hal, hany, Bool.and_self, cond_true]
theorem monoTr_spec : ∀ {tr : List St}, monoTr tr = true → ∀ (d a : Nat) (x y : St), tr[a]? = some x → tr[a + d]? = some y → x.hp.next ≤ y.hp.next
  | [], _, d, a, x, y, hx, _ => by simp at hx
  | s :: l, h, 0, a, x, y, hx, hy => by rw [Nat.add_zero, hx] at hy; cases hy; exact Nat.le_refl _
  | s :: l, h, d + 1, 0, x, y, hx, hy => by
    simp only [monoTr, Bool.and_eq_true] at h
    cases l with
    | nil => simp at hy
    | cons s' l =>
      simp only [List.getElem?_cons_zero, Option.some.injEq] at hx
      subst hx
      refine Nat.le_trans (Nat.le_of_ble_eq_true h.1) (monoTr_spec h.2 d 0 s' y (by simp) ?_)
      rw [Nat.zero_add] at hy ⊢
      simpa using hy
  | s :: l, h, d + 1, a + 1, x, y, hx, hy => by
    simp only [monoTr, Bool.and_eq_true] at h
    refine monoTr_spec h.2 (d + 1) a x y (by simpa using hx) ?_
    rw [show a + 1 + (d + 1) = (a + (d + 1)) + 1 from by omega] at hy
    simpa using hy
theorem drawStatic_spec {ops : List Oper} (h : drawStatic ops = true) : (∀ j, ∀ i ∈ edgesAt ops j, i < j) ∧
    (∀ i j oi oj, ops[i]? = some oi → ops[j]? = some oj → i ≠ j → pairOk ops (pres ops) i j oi oj = true) ∧
    ∀ k j oj, Flt ops k → ops[j]? = some oj → isObs oj = true → isFree oj = false → preB (pres ops) k j = true → ∀ e oe, e < j → ops[e]? = some oe → isObs oe = false → preB (pres ops) e j = true := by
  unfold drawStatic at h
  simp only [Bool.and_eq_true] at h
  obtain ⟨⟨h1, h2⟩, h3⟩ := h
  rw [List.all_eq_true] at h1 h2 h3
  refine ⟨fun j i hi => ?_, fun i j oi oj hi hj hne => ?_, fun k j oj hk hj ho hf hkj e' oe' hlt' hoe' hobs' => ?_⟩
  · unfold edgesAt at hi
    split at hi
    · rename_i o ho
      have := h1 (o, j) (List.mem_zipIdx_iff_getElem?.2 ho)
      simp only [List.all_eq_true] at this
      have := this i hi
      simpa using this
    · simp at hi
  · have := h2 (oi, i) (List.mem_zipIdx_iff_getElem?.2 hi)
    simp only [List.all_eq_true] at this
    have := this (oj, j) (List.mem_zipIdx_iff_getElem?.2 hj)
    simp only [Bool.or_eq_true, beq_iff_eq] at this
    rcases this with e | e
    · exact absurd e hne
    · exact e
  · obtain ⟨o, hko, hal, e, oe, hlt, hoe, hobs, hpre⟩ := hk
    have hm : k ∈ flts ops (pres ops) := by
      unfold flts
      rw [List.mem_filterMap]
      refine ⟨(o, k), List.mem_zipIdx_iff_getElem?.2 hko, ?_⟩
      have hany : ops.zipIdx.any (fun y => Nat.blt y.2 k && !isObs y.1 && !preB (pres ops) y.2 k) = true := by
        rw [List.any_eq_true]
        exact ⟨(oe, e), List.mem_zipIdx_iff_getElem?.2 hoe, by simp only [hobs, hpre, Bool.not_false, Bool.and_true]; exact Nat.ble_eq_true_of_le hlt⟩
      simp only [hal, hany, Bool.and_self, cond_true]
    have := h3 k hm
    rw [List.all_eq_true] at this
    have := this (oj, j) (List.mem_zipIdx_iff_getElem?.2 hj)
    simp only [ho, hf, hkj, Bool.not_true, Bool.or_self, Bool.false_or] at this
    rw [List.all_eq_true] at this
    have := this (oe', e') (List.mem_zipIdx_iff_getElem?.2 hoe')
    simp only [hobs', show Nat.blt e' j = true from Nat.ble_eq_true_of_le hlt', Bool.not_true, Bool.false_or] at this
    exact this

/-! The trace. -/
theorem trace_spec {ops : List Oper} : ∀ (l : List Oper) (s : St) (tr : List St), trace C R ops l s = some tr →
    tr[0]? = some s ∧ tr.length = l.length + 1 ∧ ∀ k o, l[k]? = some o → ∃ a b, tr[k]? = some a ∧ tr[k + 1]? = some b ∧ evStep C R ops a o = some b
  | [], s, tr, e => by
    cases e
    exact ⟨rfl, rfl, fun k o h => by simp at h⟩
  | o :: l, s, tr, e => by
    simp only [trace] at e
    split at e
    · rename_i s1 hs1
      split at e
      · rename_i t ht
        cases e
        obtain ⟨h0, hlen, hst⟩ := trace_spec l s1 t ht
        refine ⟨rfl, by simp [hlen], fun k o' hk => ?_⟩
        cases k with
        | zero =>
          simp only [List.getElem?_cons_zero, Option.some.injEq] at hk
          subst hk
          exact ⟨s, s1, rfl, by simpa using h0, hs1⟩
        | succ k =>
          obtain ⟨a, b, ha, hb, hab⟩ := hst k o' (by simpa using hk)
          exact ⟨a, b, by simpa using ha, by simpa using hb, hab⟩
      · cases e
    · cases e
end
end Go.Ev
