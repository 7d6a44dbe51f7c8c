/-
  A region whose order is open, walked in the machine.
-/
import Derived.Test.YtjggeombkbianaaEvW
set_option linter.unusedSimpArgs false
set_option linter.unusedVariables false
set_option linter.unusedSectionVars false
namespace Go.Ev
open Go Go.RowKit

/-- What is known of a region that the evaluator has been through. -/
structure Drawn (C : Cfg) (R : Rec) (ops : Array Oper) (s0 : St) (st : Nat → St) : Prop where
  zero : st 0 = s0
  step : ∀ k o, ops[k]? = some o → evStep C R ops.toList (st k) o = some (st (k + 1))
  low : ∀ j, ∀ i ∈ edgesAt ops.toList j, i < j
  pair : ∀ i j oi oj, ops[i]? = some oi → ops[j]? = some oj → i ≠ j → pairOk ops.toList (pres ops.toList) i j oi oj = true
  flt : ∀ k j oj, Flt ops.toList k → ops[j]? = some oj → isObs oj = true → isFree oj = false → preB (pres ops.toList) k j = true → ∀ e oe, e < j → ops[e]? = some oe → isObs oe = false → preB (pres ops.toList) e j = true
  mono : ∀ k, Flt ops.toList k → ∀ a b, a ≤ b → b ≤ ops.size → (st a).hp.next ≤ (st b).hp.next
  dyn : ∀ j e oj oe, ops[j]? = some oj → ops[e]? = some oe → isObs oj = true → isFree oj = false → isObs oe = false → preB (pres ops.toList) e j = false → preB (pres ops.toList) j e = false →
    obsOk C ops.toList oj (st j) (st (if j < e then e + 1 else e)).hp = true

theorem evDraw_drawn {C : Cfg} {R : Rec} {ops : Array Oper} {s s' : St} (e : evDraw C R ops.toList s = some s') : ∃ st, Drawn C R ops s st ∧ st ops.size = s' := by
  unfold evDraw at e
  cases hs : drawStatic ops.toList with
  | false => rw [hs] at e; cases e
  | true =>
    rw [hs] at e
    simp only [cond_true] at e
    cases ht : trace C R ops.toList ops.toList s with
    | none => rw [ht] at e; cases e
    | some tr =>
      rw [ht] at e
      simp only at e
      cases hdm : (drawDyn C ops.toList tr && ((flts ops.toList (pres ops.toList)).isEmpty || monoTr tr)) with
      | false => rw [hdm] at e; cases e
      | true =>
        rw [hdm] at e
        rw [Bool.and_eq_true] at hdm
        obtain ⟨hd, hmn⟩ := hdm
        simp only [cond_true] at e
        obtain ⟨h0, hlen, hst⟩ := trace_spec ops.toList s tr ht
        obtain ⟨hlow, hpair, hflt⟩ := drawStatic_spec hs
        have stk : ∀ (k : Nat) (x : St), tr[k]? = some x → (tr[k]?).getD s = x := fun k x h => by rw [h]; rfl
        refine ⟨fun k => (tr[k]?).getD s, ⟨stk 0 s h0, fun k o hk => ?_, hlow, fun i j oi oj hi hj hne => hpair i j oi oj (by simpa using hi) (by simpa using hj) hne, fun k j oj hk hj h1 h2 h3 e oe h4 h5 => hflt k j oj hk (by simpa using hj) h1 h2 h3 e oe h4 (by simpa using h5), fun k hk a b hab hb => ?_, fun j e' oj oe hj he ho hfr hoe h1 h2 => ?_⟩, ?_⟩
        · obtain ⟨a, b, ha, hb, hab⟩ := hst k o (by simpa using hk)
          simp only [stk k a ha, stk (k + 1) b hb]
          exact hab
        · rw [Bool.or_eq_true] at hmn
          rcases hmn with hmn | hmn
          · have := hk.mem
            rw [List.isEmpty_iff.1 hmn] at this
            simp at this
          · obtain ⟨d, rfl⟩ : ∃ d, b = a + d := ⟨b - a, by omega⟩
            have hl2 : tr.length = ops.size + 1 := by rw [hlen]; simp
            have ha : tr[a]? = some (tr[a]'(by omega)) := List.getElem?_eq_getElem (by omega)
            have hb' : tr[a + d]? = some (tr[a + d]'(by omega)) := List.getElem?_eq_getElem (by omega)
            rw [stk _ _ ha, stk _ _ hb']
            exact monoTr_spec hmn d a _ _ ha hb'
        · unfold drawDyn at hd
          rw [Bool.or_eq_true] at hd
          rcases hd with hd | hd
          · rw [List.all_eq_true] at hd
            have := hd oe (List.mem_of_getElem? (by simpa using he))
            rw [hoe] at this; cases this
          · rw [List.all_eq_true] at hd
            have h3 := hd (oj, j) (List.mem_zipIdx_iff_getElem?.2 (by simpa using hj))
            rw [List.all_eq_true] at h3
            have h4 := h3 (oe, e') (List.mem_zipIdx_iff_getElem?.2 (by simpa using he))
            simp only [pairDyn, ho, hfr, hoe, h1, h2, Bool.not_true, Bool.false_or] at h4
            split at h4
            · rename_i a b ha hb
              rw [stk j a ha, stk _ b hb]
              exact h4
            · cases h4
        · have hl : ops.toList.length = ops.size := Array.length_toList
          rw [hl] at e
          exact stk _ _ e

section
variable {C : Cfg} {R : Rec} {B : Kp} {w0 : World} {ro : Option Nat} {ops : Array Oper} {s0 : St} {st : Nat → St}

def eff (ops : Array Oper) (i : Nat) : Prop := ∃ o, ops[i]? = some o ∧ isObs o = false
noncomputable def dstAt (ops : Array Oper) (i : Nat) : Option Tmp := (ops[i]?).bind (·.dst)

namespace Drawn
variable (X : Drawn C R ops s0 st)
include X

theorem put {k : Nat} {o : Oper} (hk : ops[k]? = some o) : ∃ v, st (k + 1) = ({ st k with hp := (st (k + 1)).hp } : St).put o.dst v := evStep_put (X.step k o hk)

theorem tm_step {k : Nat} {o : Oper} (hk : ops[k]? = some o) : ∃ v, ∀ t, tmf (st (k + 1)).tm t = if o.dst = some t ∧ t < (st k).n then v else tmf (st k).tm t := by
  obtain ⟨v, hv⟩ := X.put hk
  refine ⟨v, fun t => ?_⟩
  rw [hv]
  exact tmf_put _ _ _ _ _

theorem nd {k : Nat} (hk : k ≤ ops.size) : (st k).n = s0.n ∧ (st k).df = s0.df := by
  induction k with
  | zero => rw [X.zero]; exact ⟨rfl, rfl⟩
  | succ k ih =>
    obtain ⟨v, hv⟩ := X.put (k := k) (o := ops[k]'(by omega)) (Array.getElem?_eq_getElem (by omega))
    obtain ⟨h1, h2⟩ := ih (by omega)
    rw [hv, put_n, put_df]
    exact ⟨h1, h2⟩

theorem tm_keep {a b : Nat} (hab : a ≤ b) (hb : b ≤ ops.size) {t : Tmp} (h : ∀ k, a ≤ k → k < b → dstAt ops k ≠ some t) : tmf (st b).tm t = tmf (st a).tm t := by
  induction b with
  | zero => have : a = 0 := by omega
            rw [this]
  | succ b ih =>
    by_cases e : a = b + 1
    · rw [e]
    · have hk : ops[b]? = some (ops[b]'(by omega)) := Array.getElem?_eq_getElem (by omega)
      obtain ⟨v, hv⟩ := X.tm_step hk
      rw [hv, if_neg, ih (by omega) (by omega) (fun k h1 h2 => h k h1 (by omega))]
      rintro ⟨hd, _⟩
      exact h b (by omega) (by omega) (by unfold dstAt; rw [hk]; exact hd)

theorem uniq {i j : Nat} {t : Tmp} (hi : dstAt ops i = some t) (hj : dstAt ops j = some t) : i = j := by
  apply Decidable.byContradiction
  intro hne
  unfold dstAt at hi hj
  obtain ⟨oi, hoi, hdi⟩ := Option.bind_eq_some_iff.1 hi
  obtain ⟨oj, hoj, hdj⟩ := Option.bind_eq_some_iff.1 hj
  have := X.pair i j oi oj hoi hoj hne
  unfold pairOk at this
  rw [hdi, Bool.and_eq_true] at this
  have h1 := this.1
  simp only [Bool.and_eq_true] at h1
  have h2 := h1.1
  rw [hdj] at h2
  simp at h2

theorem lt_of_dst {i : Nat} {t : Tmp} (hi : dstAt ops i = some t) : i < ops.size := by
  unfold dstAt at hi
  obtain ⟨oi, hoi, _⟩ := Option.bind_eq_some_iff.1 hi
  rcases Nat.lt_or_ge i ops.size with h | h
  · exact h
  · rw [Array.getElem?_eq_none h] at hoi; cases hoi

/-- Ahead of its own operation a temporary is what it was. -/
theorem before {i k : Nat} {t : Tmp} (hi : dstAt ops i = some t) (hk : k ≤ i) : tmf (st k).tm t = tmf s0.tm t := by
  have hlt := X.lt_of_dst hi
  rw [X.tm_keep (Nat.zero_le k) (by omega) (t := t) (fun j _ hj hd => by have := X.uniq hi hd; omega), X.zero]
/-- Behind it, what it will be. -/
theorem after {i k : Nat} {t : Tmp} (hi : dstAt ops i = some t) (hk : i < k) (hks : k ≤ ops.size) : tmf (st k).tm t = tmf (st ops.size).tm t :=
  (X.tm_keep hks (Nat.le_refl _) (t := t) (fun j h1 _ hd => by have := X.uniq hi hd; omega)).symm
theorem never {k : Nat} {t : Tmp} (h : ∀ i, dstAt ops i ≠ some t) (hk : k ≤ ops.size) : tmf (st k).tm t = tmf s0.tm t := by
  rw [X.tm_keep (Nat.zero_le k) hk (t := t) (fun j _ _ => h j), X.zero]

theorem hp_obs {k : Nat} {o : Oper} (hk : ops[k]? = some o) (ho : isObs o = true) : (st (k + 1)).hp = (st k).hp := by
  have e := X.step k o hk
  unfold evStep at e
  split at e
  · unfold evOp at e
    cases ha : aOp C (st k) o with
    | none => rw [ha] at e; cases e
    | some r =>
      obtain ⟨n, h'⟩ := r
      obtain ⟨hh, v, hv⟩ := isObs_obs ho ha
      subst hv
      rw [ha] at e
      simp only [Option.some.injEq] at e
      rw [← e, put_hp, hh]
  · simp only [Option.some.injEq] at e
    rw [← e, put_hp]
  · cases e

theorem hp_between {a b : Nat} (hab : a ≤ b) (hb : b ≤ ops.size) (h : ∀ k, a ≤ k → k < b → ¬ eff ops k) : (st b).hp = (st a).hp := by
  induction b with
  | zero => have : a = 0 := by omega
            rw [this]
  | succ b ih =>
    by_cases e : a = b + 1
    · rw [e]
    · have hk : ops[b]? = some (ops[b]'(by omega)) := Array.getElem?_eq_getElem (by omega)
      rw [X.hp_obs hk (by
        cases ho : isObs (ops[b]'(by omega)) with
        | true => rfl
        | false => exact absurd ⟨_, hk, ho⟩ (h b (by omega) (by omega)))]
      exact ih (by omega) (by omega) fun k h1 h2 => h k h1 (by omega)

theorem next_eff {a b : Nat} (hab : a ≤ b) (hb : b ≤ ops.size) : (st a).hp = (st b).hp ∨ ∃ e, a ≤ e ∧ e < b ∧ eff ops e ∧ (st a).hp = (st e).hp := by
  obtain ⟨d, rfl⟩ : ∃ d, b = a + d := ⟨b - a, by omega⟩
  induction d generalizing a with
  | zero => exact .inl rfl
  | succ d ih =>
    by_cases he : eff ops a
    · exact .inr ⟨a, Nat.le_refl _, by omega, he, rfl⟩
    · have h1 : (st (a + 1)).hp = (st a).hp := X.hp_between (by omega) (by omega) fun k h1 h2 => by have : k = a := by omega
                                                                                                    rw [this]; exact he
      rcases ih (a := a + 1) (by omega) (by omega) with h | ⟨e, h2, h3, h4, h5⟩
      · exact .inl (by rw [← h1, h]; congr 2; omega)
      · exact .inr ⟨e, by omega, by omega, h4, by rw [← h1, h5]⟩
theorem prev_eff {a b : Nat} (hab : a ≤ b) (hb : b ≤ ops.size) : (st a).hp = (st b).hp ∨ ∃ e, a ≤ e ∧ e < b ∧ eff ops e ∧ (st b).hp = (st (e + 1)).hp := by
  induction b with
  | zero => have : a = 0 := by omega
            rw [this]; exact .inl rfl
  | succ b ih =>
    by_cases e : a = b + 1
    · rw [e]; exact .inl rfl
    · by_cases he : eff ops b
      · exact .inr ⟨b, by omega, by omega, he, rfl⟩
      · have h1 : (st (b + 1)).hp = (st b).hp := X.hp_between (by omega) (by omega) fun k h1 h2 => by have : k = b := by omega
                                                                                                      rw [this]; exact he
        rcases ih (by omega) (by omega) with h | ⟨e, h2, h3, h4, h5⟩
        · exact .inl (by rw [h1, h])
        · exact .inr ⟨e, by omega, by omega, h4, by rw [h1, h5]⟩
end Drawn

/-- The temporaries on the way. -/
noncomputable def mixf (ops : Array Oper) (s0 sN : St) (listed : Array Bool) (t : Nat) : AV :=
  if (List.range ops.size).any (fun i => decide (dstAt ops i = some t) && listed.getD i false) = true then tmf sN.tm t else tmf s0.tm t
theorem mixf_in {sN : St} {listed : Array Bool} {t i : Nat} (hi : i < ops.size) (hd : dstAt ops i = some t) (hl : listed.getD i false = true) : mixf ops s0 sN listed t = tmf sN.tm t := by
  unfold mixf
  rw [if_pos]
  rw [List.any_eq_true]
  exact ⟨i, List.mem_range.2 hi, by rw [hl]; simp [hd]⟩
theorem mixf_out {sN : St} {listed : Array Bool} {t : Nat} (h : ∀ i, dstAt ops i = some t → listed.getD i false = false) : mixf ops s0 sN listed t = tmf s0.tm t := by
  unfold mixf
  rw [if_neg]
  rw [List.any_eq_true]
  rintro ⟨i, _, hi⟩
  rw [Bool.and_eq_true] at hi
  have hd : dstAt ops i = some t := by simpa using hi.1
  rw [h i hd] at hi
  exact absurd hi.2 (by simp)

theorem getD_of {listed : Array Bool} {i : Nat} (h : listed.getD i true = false) : i < listed.size ∧ listed[i]? = some false ∧ listed.getD i false = false := by
  rw [Array.getD_eq_getD_getElem?] at h
  cases hx : listed[i]? with
  | none => rw [hx] at h; cases h
  | some b =>
    rw [hx] at h
    simp only [Option.getD_some] at h
    subst h
    refine ⟨?_, rfl, by rw [Array.getD_eq_getD_getElem?, hx]; rfl⟩
    rcases Nat.lt_or_ge i listed.size with h | h
    · exact h
    · rw [Array.getElem?_eq_none h] at hx; cases hx
theorem getD_set {listed : Array Bool} {i : Nat} (hi : i < listed.size) (j : Nat) : (listed.setIfInBounds i true).getD j false = if j = i then true else listed.getD j false := by
  rw [Array.getD_eq_getD_getElem?, Array.getD_eq_getD_getElem?]
  by_cases e : j = i
  · subst e
    rw [if_pos rfl, Array.getElem?_setIfInBounds_self_of_lt hi]; rfl
  · rw [if_neg e, Array.getElem?_setIfInBounds_ne (fun h => e h.symm)]
theorem count_down {listed : Array Bool} {i : Nat} (hi : i < listed.size) (h : listed[i]? = some false) {k : Nat} (hk : listed.toList.count false ≤ k + 1) : (listed.setIfInBounds i true).toList.count false ≤ k := by
  rw [Array.toList_setIfInBounds, List.count_set (by simpa using hi)]
  have hx : listed.toList[i]'(by simpa using hi) = false := by
    rw [Array.getElem?_eq_getElem hi] at h
    simpa using h
  rw [hx]
  show listed.toList.count false - (if (false == false) = true then 1 else 0) + (if (true == false) = true then 1 else 0) ≤ k
  rw [if_pos (show (false == false) = true from rfl), if_neg (show ¬ (true == false) = true by decide)]
  omega
theorem count_zero {listed : Array Bool} {i : Nat} (h : listed[i]? = some false) (hk : listed.toList.count false ≤ 0) : False := by
  have hm : false ∈ listed.toList := List.mem_of_getElem? (by simpa using h)
  have := List.count_pos_iff.2 hm
  omega

theorem edge_mem {o : Oper} {e : Edge} (he : e ∈ o.after) (hb : Region.binds .any e = true) : e.on ∈ edgesOf o := by
  unfold edgesOf
  exact List.mem_map.2 ⟨e, List.mem_filter.2 ⟨by simpa using he, hb⟩, rfl⟩
theorem edge_of {o : Oper} {i : Nat} (h : i ∈ edgesOf o) : ∃ e, e ∈ o.after ∧ Region.binds .any e = true ∧ e.on = i := by
  unfold edgesOf at h
  obtain ⟨e, he, rfl⟩ := List.mem_map.1 h
  obtain ⟨h1, h2⟩ := List.mem_filter.1 he
  exact ⟨e, by simpa using h1, h2, rfl⟩
theorem edgesAt_of {i : Nat} {o : Oper} (h : ops[i]? = some o) : edgesAt ops.toList i = edgesOf o := by
  unfold edgesAt
  rw [show ops.toList[i]? = some o from by simpa using h]

namespace Drawn
variable (X : Drawn C R ops s0 st)
include X

theorem all_listed {listed : Array Bool} (hsz : listed.size = ops.size) (hr : Region.ready .any ops listed = []) : ∀ i, i < ops.size → listed.getD i false = true := by
  intro i
  induction i using Nat.strongRecOn with
  | ind i ih =>
    intro hi
    cases hl : listed.getD i false with
    | true => rfl
    | false =>
      have hk : ops[i]? = some (ops[i]'hi) := Array.getElem?_eq_getElem hi
      have : i ∈ Region.ready .any ops listed := mem_ready.2 ⟨by
        rw [Array.getD_eq_getD_getElem?] at hl ⊢
        have hs : i < listed.size := by rw [hsz]; exact hi
        rw [Array.getElem?_eq_getElem hs] at hl ⊢
        exact hl, _, hk, fun e he hb => by
          have hm : e.on ∈ edgesAt ops.toList i := by rw [edgesAt_of hk]; exact edge_mem he hb
          have hlt := X.low i _ hm
          exact ih _ hlt (by omega)⟩
      rw [hr] at this
      simp at this

theorem looks_eq {listed : Array Bool} (hcl : Closed ops.toList (fun i => listed.getD i false = true)) {i : Nat} {o : Oper} (hi : ops[i]? = some o) (hlt : i < ops.size) (hnot : listed.getD i false = false) (hed : ∀ e ∈ edgesAt ops.toList i, listed.getD e false = true)
    {t : Tmp} (ht : t ∈ looksOf ops.toList o) : mixf ops s0 (st ops.size) listed t = tmf (st i).tm t := by
  by_cases h : ∃ j, dstAt ops j = some t
  · obtain ⟨j, hj⟩ := h
    by_cases e : j = i
    · subst e
      rw [mixf_out (fun k hk => by rw [X.uniq hk hj]; exact hnot), X.before hj (Nat.le_refl _)]
    · have hj' := hj
      unfold dstAt at hj'
      obtain ⟨oj, hoj, hdj⟩ := Option.bind_eq_some_iff.1 hj'
      have hp := X.pair j i oj o hoj hi e
      unfold pairOk at hp
      rw [hdj, Bool.and_eq_true] at hp
      have h1 := hp.1
      simp only [Bool.and_eq_true] at h1
      have h2 := h1.2
      have hc : (looksOf ops.toList o).contains t = true := by simpa using ht
      rw [hc] at h2
      simp only [Bool.not_true, Bool.false_or, Bool.or_eq_true] at h2
      rcases h2 with h2 | h2
      · obtain ⟨hji, hP⟩ := preB_spec X.low h2
        have hD := hP _ hcl hed
        rw [mixf_in (X.lt_of_dst hj) hj hD, X.after hj hji (by omega)]
      · obtain ⟨hij, hP⟩ := preB_spec X.low h2
        rw [X.before hj (by omega)]
        refine mixf_out fun k hk => ?_
        rw [X.uniq hk hj]
        cases hl : listed.getD j false with
        | false => rfl
        | true =>
          have := hP _ hcl (hcl j hl)
          exact absurd (hnot.symm.trans this) (by simp)
  · have hn : ∀ j, dstAt ops j ≠ some t := fun j hj => h ⟨j, hj⟩
    rw [X.never hn (by omega)]
    exact mixf_out fun j hj => absurd hj (hn j)

end Drawn
open Classical in
/-- The context with the rows that were laid ahead, up to a number. -/
noncomputable def cxm (c0 : Ctx) (ec : Nat → Option Loc) (m : Nat) : Ctx := fun i => match c0 i with | some L => some L | none => if i < m then ec i else none
theorem cxm_base {c0 : Ctx} {ec : Nat → Option Loc} (m : Nat) : Ctx.le c0 (cxm c0 ec m) := fun i L h => by unfold cxm; rw [h]
theorem cxm_mono {c0 : Ctx} {ec : Nat → Option Loc} {m m' : Nat} (h : m ≤ m') : Ctx.le (cxm c0 ec m) (cxm c0 ec m') := fun i L e => by
  unfold cxm at e ⊢
  cases hc : c0 i with
  | some M => rw [hc] at e; exact e
  | none =>
    rw [hc] at e
    simp only at e ⊢
    split at e
    · rw [if_pos (by omega)]; exact e
    · cases e
/-- What is kept and avoided besides: the rows that were laid ahead. -/
def BE (B : Kp) (ec : Nat → Option Loc) : Kp := ⟨fun k => B.keep k ∨ ∃ i L, ec i = some L ∧ L.blk = k, fun k => B.avoid k ∨ ∃ i L, ec i = some L ∧ L.blk = k, fun k h => h.imp (B.sub k) id⟩
def EF (w : World) (c : Ctx) (st : Nat → St) (k : Nat) (L : Loc) : Prop :=
  ∃ elem cells vs, (st (k + 1)).hp = (st k).hp.row elem cells ∧ L = ⟨L.blk, 0, vs.length⟩ ∧ w.heap[L.blk]? = some (.cells ⟨vs⟩ elem (0, 0)) ∧ VRs c cells vs ∧ ∀ v ∈ vs, v.oneCell' = true
theorem EF.mono {w w' : World} {c c' : Ctx} {st : Nat → St} {k : Nat} {L : Loc} (h : EF w c st k L) (hc : Ctx.le c c') (hw : w'.heap[L.blk]? = w.heap[L.blk]?) : EF w' c' st k L := by
  obtain ⟨elem, cells, vs, h1, h2, h3, h4, h5⟩ := h
  exact ⟨elem, cells, vs, h1, h2, hw.trans h3, h4.mono hc, h5⟩
theorem EF.next {w : World} {c : Ctx} {st : Nat → St} {k : Nat} {L : Loc} (h : EF w c st k L) : (st (k + 1)).hp.next = (st k).hp.next + 1 := by
  obtain ⟨elem, cells, vs, h1, _⟩ := h
  rw [h1]; rfl
theorem EF.lt {w : World} {c : Ctx} {st : Nat → St} {k : Nat} {L : Loc} (h : EF w c st k L) : L.blk < w.heap.size := by
  obtain ⟨elem, cells, vs, _, _, h3, _⟩ := h
  rcases Nat.lt_or_ge L.blk w.heap.size with h | h
  · exact h
  · rw [Array.getElem?_eq_none h] at h3; cases h3
/-- What is known of a temporary. -/
def VT (ops : Array Oper) (st : Nat → St) (listed : Array Bool) (c0 : Ctx) (ec : Nat → Option Loc) (t : Nat) (a : AV) (v : Value) : Prop :=
  ∀ m, (∀ j, dstAt ops j = some t → listed.getD j false = true → FD ops.toList j → (st (j + 1)).hp.next ≤ m) → VR (cxm c0 ec m) a v

/-- How far a region has come. -/
structure Mid (C : Cfg) (B : Kp) (w0 : World) (ops : Array Oper) (s0 : St) (st : Nat → St) (listed : Array Bool) (q : Nat) (c0 : Ctx) (ec : Nat → Option Loc) (act : Act) (w : World) : Prop where
  size : listed.size = ops.size
  closed : Closed ops.toList (fun i => listed.getD i false = true)
  le : q ≤ ops.size
  lo : ∀ i, eff ops i → i < q → listed.getD i false = true
  hi : ∀ i, eff ops i → q ≤ i → listed.getD i false = true → Flt ops.toList i ∧ ∃ L, ec (st i).hp.next = some L ∧ EF w (cxm c0 ec (st i).hp.next) st i L
  ex : ∀ j L, ec j = some L → ¬ B.keep L.blk ∧ ∃ k, j = (st k).hp.next ∧ q ≤ k ∧ eff ops k ∧ listed.getD k false = true
  inj : ∀ i j L M, ec i = some L → ec j = some M → L.blk = M.blk → i = j
  hp : ∃ w1, Keep B.keep w0 w1 ∧ HR (BE B ec) w1 c0 (st q).hp w
  tm : TRm (VT ops st listed c0 ec) (mixf ops s0 (st ops.size) listed) act.tmps s0.n
  df : DR c0 s0.df act.defers
  gr : GR C c0

theorem isAl_obs {o : Oper} (h : isAl o = true) : isObs o = false := by
  unfold isAl at h
  rw [Bool.and_eq_true] at h
  have h2 := h.2
  unfold isObs
  cases hop : o.op <;> rw [hop] at h2 <;> first | rfl | (cases h2)

namespace Mid
variable {listed : Array Bool} {q : Nat} {c0 : Ctx} {ec : Nat → Option Loc} {act : Act} {w : World}

theorem size_eff {i : Nat} (h : eff ops i) : i < ops.size := by
  obtain ⟨o, ho, _⟩ := h
  rcases Nat.lt_or_ge i ops.size with h | h
  · exact h
  · rw [Array.getElem?_eq_none h] at ho; cases ho

/-- Below the turn nothing lies ahead. -/
theorem ec_ge (M : Mid C B w0 ops s0 st listed q c0 ec act w) (X : Drawn C R ops s0 st) {j : Nat} {L : Loc} (h : ec j = some L) : (st q).hp.next ≤ j := by
  obtain ⟨_, k, rfl, hqk, hk, hl⟩ := M.ex j L h
  obtain ⟨hf, _⟩ := M.hi k hk hqk hl
  exact X.mono k hf q k hqk (Nat.le_of_lt (size_eff hk))
theorem base (M : Mid C B w0 ops s0 st listed q c0 ec act w) (X : Drawn C R ops s0 st) {m : Nat} (hm : m ≤ (st q).hp.next) : cxm c0 ec m = c0 := by
  funext i
  unfold cxm
  cases hc : c0 i with
  | some L => rfl
  | none =>
    simp only
    split
    · rename_i hlt
      cases he : ec i with
      | none => rfl
      | some L => have := M.ec_ge X he; omega
    · rfl

/-- What an operation looks at, where its turn may have come. -/
theorem look (M : Mid C B w0 ops s0 st listed q c0 ec act w) (X : Drawn C R ops s0 st) {i : Nat} {o : Oper} (ho : ops[i]? = some o) (hlt : i < ops.size) (hnot : listed.getD i false = false) (hed : ∀ e ∈ edgesAt ops.toList i, listed.getD e false = true)
    {t : Tmp} (ht : t ∈ looksOf ops.toList o) {m : Nat} (hm : FD ops.toList i → (st i).hp.next ≤ m) : VR (cxm c0 ec m) (tmf (st i).tm t) (act.tmps.getD t Go.undef) := by
  rw [← X.looks_eq M.closed ho hlt hnot hed ht]
  by_cases hn : t < s0.n
  · obtain ⟨v, hv, hr⟩ := M.tm.val t hn
    rw [Array.getD_eq_getD_getElem?, hv]
    refine hr m fun j hj hl hfd => ?_
    -- j precedes i
    have hne : j ≠ i := fun e => by rw [e, hnot] at hl; cases hl
    have hj' := hj
    unfold dstAt at hj'
    obtain ⟨oj, hoj, hdj⟩ := Option.bind_eq_some_iff.1 hj'
    have hp := X.pair j i oj o hoj ho hne
    unfold pairOk at hp
    rw [hdj, Bool.and_eq_true] at hp
    have h1 := hp.1
    simp only [Bool.and_eq_true] at h1
    have h2 := h1.2
    have hc : (looksOf ops.toList o).contains t = true := by simpa using ht
    rw [hc] at h2
    simp only [Bool.not_true, Bool.false_or, Bool.or_eq_true] at h2
    rcases h2 with h2 | h2
    · have hP := preB_spec X.low h2
      have hfi := hfd.pre hP
      obtain ⟨k, hk, _⟩ := hfi
      exact Nat.le_trans (X.mono k hk (j + 1) i hP.1 (by omega)) (hm (hfd.pre hP))
    · have hP := preB_spec X.low h2
      have := hP.2 _ M.closed (M.closed j hl)
      exact absurd (hnot.symm.trans this) (by simp)
  · rw [M.tm.out t (Nat.le_of_not_lt hn)]
    have : act.tmps[t]? = none := Array.getElem?_eq_none (by rw [M.tm.size]; exact Nat.le_of_not_lt hn)
    rw [Array.getD_eq_getD_getElem?, this]; exact VR.undef _

/-- The turn of an operation that only reads: nothing turns. -/
theorem adv_obs (M : Mid C B w0 ops s0 st listed q c0 ec act w) (X : Drawn C R ops s0 st) (hq : q < ops.size) (he : ¬ eff ops q) : Mid C B w0 ops s0 st listed (q + 1) c0 ec act w := by
  have hk : ops[q]? = some (ops[q]'hq) := Array.getElem?_eq_getElem hq
  have hh : (st (q + 1)).hp = (st q).hp := X.hp_obs hk (by
    cases ho : isObs (ops[q]'hq) with
    | true => rfl
    | false => exact absurd ⟨_, hk, ho⟩ he)
  have hne : ∀ i, eff ops i → i ≠ q := fun i hi e => he (e ▸ hi)
  exact ⟨M.size, M.closed, hq, fun i hi h => M.lo i hi (by have := hne i hi; omega), fun i hi h hl => M.hi i hi (by omega) hl, fun j L h => by
    obtain ⟨hb, k, hj, hqk, hk, hl⟩ := M.ex j L h
    exact ⟨hb, k, hj, by have := hne k hk; omega, hk, hl⟩, M.inj, by rw [hh]; exact M.hp, M.tm, M.df, M.gr⟩

/-- The turn of a row that was laid ahead. -/
theorem adv_al (M : Mid C B w0 ops s0 st listed q c0 ec act w) (X : Drawn C R ops s0 st) (he : eff ops q) (hl : listed.getD q false = true) : ∃ c0' ec', Ctx.le c0 c0' ∧ Mid C B w0 ops s0 st listed (q + 1) c0' ec' act w := by
  have hq := size_eff he
  obtain ⟨hf, L, hL, E⟩ := M.hi q he (Nat.le_refl q) hl
  have hnx := E.next
  obtain ⟨elem, cells, vs, hrow, hLe, hw, hvs, h1⟩ := E
  rw [M.base X (Nat.le_refl _)] at hvs
  obtain ⟨w1, hk, H⟩ := M.hp
  have hfr : c0 (st q).hp.next = none := H.fresh _ (Nat.le_refl _)
  let ec' : Nat → Option Loc := fun i => if i = (st q).hp.next then none else ec i
  have hec : ∀ i N, ec' i = some N → ec i = some N ∧ i ≠ (st q).hp.next := fun i N h => by
    simp only [ec'] at h
    split at h
    · cases h
    · rename_i hne; exact ⟨h, hne⟩
  have hout : ∀ {p : Nat → Prop}, (¬ p L.blk) → ¬ (p L.blk ∨ ∃ i N, ec' i = some N ∧ N.blk = L.blk) := fun hp hh => by
    rcases hh with h | ⟨i, N, hN, hb⟩
    · exact hp h
    · obtain ⟨h1, h2⟩ := hec i N hN
      exact h2 (M.inj _ _ _ _ h1 hL hb)
  have H' : HR (BE B ec') w1 (c0.ext (st q).hp.next ⟨L.blk, 0, vs.length⟩) ((st q).hp.row elem cells) w :=
    H.absorb (B' := BE B ec') (fun k h => h.imp id fun ⟨i, N, hN, hb⟩ => ⟨i, N, (hec i N hN).1, hb⟩) (fun k h => h.imp id fun ⟨i, N, hN, hb⟩ => ⟨i, N, (hec i N hN).1, hb⟩) elem hw
      (.inr ⟨_, _, hL, rfl⟩) (hout (p := B.keep) (M.ex _ _ hL).1) hvs h1
  rw [← hLe, ← hrow] at H'
  have hle0 : Ctx.le c0 (c0.ext (st q).hp.next L) := Ctx.le_ext hfr
  have hcx : ∀ m, Ctx.le (cxm c0 ec m) (cxm (c0.ext (st q).hp.next L) ec' m) := fun m i N h => by
    unfold cxm at h ⊢
    cases hc : c0 i with
    | some P =>
      rw [hc] at h
      rw [hle0 _ _ hc]
      exact h
    | none =>
      rw [hc] at h
      simp only at h
      split at h
      · rename_i hlt
        by_cases e : i = (st q).hp.next
        · subst e
          rw [hL] at h
          rw [Ctx.ext_same]
          exact h
        · have : (c0.ext (st q).hp.next L) i = none := by unfold Ctx.ext; rw [if_neg e]; exact hc
          rw [this]
          simp only
          rw [if_pos hlt]
          simp only [ec']
          rw [if_neg e]; exact h
      · cases h
  refine ⟨c0.ext (st q).hp.next L, ec', hle0, ⟨M.size, M.closed, hq, fun i hi h => ?_, fun i hi h hli => ?_, fun j N h => ?_, fun i j N P hN hP hb => M.inj i j N P (hec _ _ hN).1 (hec _ _ hP).1 hb, ⟨w1, hk, H'⟩, ?_, M.df.mono hle0, M.gr.mono hle0⟩⟩
  · by_cases e : i = q
    · rw [e]; exact hl
    · exact M.lo i hi (by omega)
  · obtain ⟨hfi, N, hN, E⟩ := M.hi i hi (by omega) hli
    have hlt : (st q).hp.next < (st i).hp.next := by
      have := X.mono i hfi (q + 1) i (by omega) (Nat.le_of_lt (size_eff hi))
      omega
    refine ⟨hfi, N, ?_, E.mono (hcx _) rfl⟩
    simp only [ec']
    rw [if_neg (by omega)]; exact hN
  · obtain ⟨h1, h2⟩ := hec j N h
    obtain ⟨hb, k, hj, hqk, hk, hlk⟩ := M.ex j N h1
    refine ⟨hb, k, hj, ?_, hk, hlk⟩
    have : k ≠ q := fun e => h2 (by rw [hj, e])
    omega
  · exact M.tm.imp fun t v h m hm => (h m hm).mono (hcx m)

/-- Up to the first effect that has not been carried out. -/
theorem normal (X : Drawn C R ops s0 st) : ∀ (d q : Nat) (c0 : Ctx) (ec : Nat → Option Loc), Mid C B w0 ops s0 st listed q c0 ec act w → ops.size - q ≤ d →
    ∃ q' c0' ec', Ctx.le c0 c0' ∧ Mid C B w0 ops s0 st listed q' c0' ec' act w ∧ (q' = ops.size ∨ (eff ops q' ∧ listed.getD q' false = false)) := by
  intro d
  induction d with
  | zero =>
    intro q c0 ec M hd
    exact ⟨q, c0, ec, Ctx.le_refl _, M, .inl (by have := M.le; omega)⟩
  | succ d ih =>
    intro q c0 ec M hd
    by_cases hq : q = ops.size
    · exact ⟨q, c0, ec, Ctx.le_refl _, M, .inl hq⟩
    · have hlt : q < ops.size := by have := M.le; omega
      by_cases he : eff ops q
      · cases hl : listed.getD q false with
        | false => exact ⟨q, c0, ec, Ctx.le_refl _, M, .inr ⟨he, hl⟩⟩
        | true =>
          obtain ⟨c1, e1, hle, M1⟩ := M.adv_al X he hl
          obtain ⟨q', c2, e2, hle2, h⟩ := ih (q + 1) c1 e1 M1 (by omega)
          exact ⟨q', c2, e2, Ctx.le_trans hle hle2, h⟩
      · obtain ⟨q', c2, e2, hle2, h⟩ := ih (q + 1) c0 ec (M.adv_obs X hlt he) (by omega)
        exact ⟨q', c2, e2, hle2, h⟩

/-- The temporaries behind an operation. -/
theorem tm_put (M : Mid C B w0 ops s0 st listed q c0 ec act w) (X : Drawn C R ops s0 st) {i : Nat} {o : Oper} (ho : ops[i]? = some o) (hlt : i < ops.size) (hnot : listed.getD i false = false) {c0' : Ctx} {ec' : Nat → Option Loc}
    (hcx : ∀ m, Ctx.le (cxm c0 ec m) (cxm c0' ec' m)) {v : AV} {u : Value} (hs : ∀ t, tmf (st (i + 1)).tm t = if o.dst = some t ∧ t < s0.n then v else tmf (st i).tm t)
    (hv : ∀ m, (FD ops.toList i → (st (i + 1)).hp.next ≤ m) → VR (cxm c0' ec' m) v u) :
    TRm (VT ops st (listed.setIfInBounds i true) c0' ec') (mixf ops s0 (st ops.size) (listed.setIfInBounds i true)) (act.put o.dst u).tmps s0.n := by
  have hsz : i < listed.size := by rw [M.size]; exact hlt
  have hda : ∀ t, o.dst = some t ↔ dstAt ops i = some t := fun t => by unfold dstAt; rw [ho]; rfl
  have hmix : ∀ t, mixf ops s0 (st ops.size) (listed.setIfInBounds i true) t = if o.dst = some t ∧ t < s0.n then v else mixf ops s0 (st ops.size) listed t := fun t => by
    by_cases hd : o.dst = some t
    · have hd' := (hda t).1 hd
      rw [mixf_in hlt hd' (by rw [getD_set hsz, if_pos rfl]), ← X.after hd' (Nat.lt_succ_self i) (by omega), hs]
      by_cases hl : t < s0.n
      · rw [if_pos ⟨hd, hl⟩, if_pos ⟨hd, hl⟩]
      · rw [if_neg (fun h => hl h.2), if_neg (fun h => hl h.2), X.before hd' (Nat.le_refl _)]
        exact (mixf_out fun k hk => by rw [X.uniq hk hd']; exact hnot).symm
    · rw [if_neg (fun h => hd h.1)]
      have hsame : ∀ k, dstAt ops k = some t → (listed.setIfInBounds i true).getD k false = listed.getD k false := fun k hk => by
        rw [getD_set hsz, if_neg]
        intro e
        rw [e] at hk
        exact hd ((hda t).2 hk)
      by_cases hx : ∃ k, dstAt ops k = some t ∧ listed.getD k false = true
      · obtain ⟨k, hk, hkl⟩ := hx
        rw [mixf_in (X.lt_of_dst hk) hk hkl, mixf_in (X.lt_of_dst hk) hk ((hsame k hk).trans hkl)]
      · have hf : ∀ k, dstAt ops k = some t → listed.getD k false = false := fun k hk => by
          cases hl : listed.getD k false with
          | false => rfl
          | true => exact absurd ⟨k, hk, hl⟩ hx
        rw [mixf_out hf, mixf_out fun k hk => (hsame k hk).trans (hf k hk)]
  -- the relation of each temporary in its own right
  have hV : ∀ d, o.dst = some d → VT ops st (listed.setIfInBounds i true) c0' ec' d v u := fun d hd m hm => hv m fun hfd => hm i ((hda d).1 hd) (by rw [getD_set hsz, if_pos rfl]) hfd
  have T2 : TRm (VT ops st (listed.setIfInBounds i true) c0' ec') (mixf ops s0 (st ops.size) listed) act.tmps s0.n := by
    refine M.tm.imp fun t x h m hm => ?_
    refine (h m fun j hj hl hfd => hm j hj ?_ hfd).mono (hcx m)
    rw [getD_set hsz]
    split
    · rfl
    · exact hl
  exact T2.actput hV hmix

theorem listed_closed (M : Mid C B w0 ops s0 st listed q c0 ec act w) {i : Nat} (hlt : i < ops.size) (hed : ∀ e ∈ edgesAt ops.toList i, listed.getD e false = true) :
    Closed ops.toList (fun j => (listed.setIfInBounds i true).getD j false = true) := by
  have hsz : i < listed.size := by rw [M.size]; exact hlt
  intro j hj e he
  simp only [getD_set hsz] at hj ⊢
  by_cases ee : e = i
  · rw [if_pos ee]
  · rw [if_neg ee]
    by_cases ej : j = i
    · subst ej; exact hed e he
    · rw [if_neg ej] at hj; exact M.closed j hj e he

theorem tm_of_put {i : Nat} {o : Oper} {s1 : St} {v : AV} (hn : (st i).n = s0.n) (h : st (i + 1) = ({ st i with hp := (st (i + 1)).hp } : St).put o.dst v) : ∀ t, tmf (st (i + 1)).tm t = if o.dst = some t ∧ t < s0.n then v else tmf (st i).tm t := fun t => by
  have := congrFun (congrArg tmf (congrArg St.tm h)) t
  rw [this, tmf_put, hn]

/-- An operation whose value is known. -/
theorem wp_val {o : Oper} {i : Nat} (ho : ops[i]? = some o) {s : St} (hl : ∀ t ∈ looksOf ops.toList o, VR c0 (tmf s.tm t) (act.tmps.getD t Go.undef)) (hw : aWanted ops.toList s o = some true) {r : ANext × Hp} (ha : aOp C s o = some r) {u : Value} {w' : World}
    (hrun : (execOp act.eval o).run C.P w = .ok (.value u) w') {K : Act → World → Prop} {Q : Exit → Act → World → Prop} (hK : K (act.put o.dst u) w') : wpOpIn (fen ro) 0 C.P ops Q i K act w := by
  unfold wpOpIn
  simp only [ho]
  rw [aWanted_run (c := c0) hl hw]
  refine ⟨fun _ _ => trivial, ?_⟩
  rw [Oper.semAt_eq _ _ _ (aOp_nodefer ha), hrun]
  exact hK
theorem wp_skip {o : Oper} {i : Nat} (ho : ops[i]? = some o) {s : St} (hl : ∀ t ∈ looksOf ops.toList o, VR c0 (tmf s.tm t) (act.tmps.getD t Go.undef)) (hw : aWanted ops.toList s o = some false)
    {K : Act → World → Prop} {Q : Exit → Act → World → Prop} (hK : K (act.put o.dst Go.undef) w) : wpOpIn (fen ro) 0 C.P ops Q i K act w := by
  unfold wpOpIn
  simp only [ho]
  rw [aWanted_run (c := c0) hl hw]
  exact ⟨fun _ _ => trivial, hK⟩

/-- An effect whose turn it is. -/
theorem step_main (M : Mid C B w0 ops s0 st listed q c0 ec act w) (X : Drawn C R ops s0 st) (RC : CallOK C R B w0) (RY : YldOK C R B w0) (RE : ExtOK C) {o : Oper} (ho : ops[q]? = some o) (hob : isObs o = false) (hlt : q < ops.size) (hnot : listed.getD q false = false) (hed : ∀ e ∈ edgesAt ops.toList q, listed.getD e false = true)
    {K : Act → World → Prop} {Q : Exit → Act → World → Prop} (hK : ∀ c0' act' w', Ctx.le c0 c0' → Mid C B w0 ops s0 st (listed.setIfInBounds q true) (q + 1) c0' ec act' w' → K act' w') : wpOpIn (fen ro) 0 C.P ops Q q K act w := by
  have hsz : q < listed.size := by rw [M.size]; exact hlt
  obtain ⟨w1, hk, H⟩ := M.hp
  have hsub : Sub B w0 (BE B ec) w1 := ⟨hk, fun k h => .inl h⟩
  have hbase := M.base X (Nat.le_refl _)
  refine evStep_sound (RC.sub hsub) (RY.sub hsub) RE M.gr ho (fun t ht => ?_) H (X.step q o ho) fun c' w' u v hle hvr H' hs => hK c' _ w' hle ?_
  · have := M.look X ho hlt hnot hed ht (m := (st q).hp.next) (fun _ => Nat.le_refl _)
    rw [hbase] at this; exact this
  · have hkeep : ∀ j L, ec j = some L → w'.heap[L.blk]? = w.heap[L.blk]? := fun j L h => by
      have h1 := H'.below.block L.blk (.inr ⟨j, L, h, rfl⟩)
      have h2 := H.below.block L.blk (.inr ⟨j, L, h, rfl⟩)
      rw [h1, h2]
    have hge : ∀ j L, ec j = some L → (st (q + 1)).hp.next ≤ j := fun j L h => by
      obtain ⟨_, k, rfl, hqk, hke, hl⟩ := M.ex j L h
      have hne : k ≠ q := fun e => by rw [e, hnot] at hl; cases hl
      exact X.mono k (M.hi k hke hqk hl).1 (q + 1) k (by omega) (Nat.le_of_lt (size_eff hke))
    have hcx : ∀ m, Ctx.le (cxm c0 ec m) (cxm c' ec m) := fun m i N h => by
      unfold cxm at h ⊢
      cases hc : c0 i with
      | some P => rw [hc] at h; rw [hle _ _ hc]; exact h
      | none =>
        rw [hc] at h
        simp only at h
        split at h
        · rename_i hm
          rw [H'.fresh i (hge i N h)]
          simp only
          rw [if_pos hm]; exact h
        · cases h
    refine ⟨by simp [M.size], M.listed_closed hlt hed, hlt, fun i hi h => ?_, fun i hi h hl => ?_, fun j L h => ?_, M.inj, ⟨w1, hk, H'⟩, ?_, by rw [put_defers]; exact M.df.mono hle, M.gr.mono hle⟩
    · rw [getD_set hsz]
      by_cases e : i = q
      · rw [if_pos e]
      · rw [if_neg e]; exact M.lo i hi (by omega)
    · rw [getD_set hsz, if_neg (by omega)] at hl
      obtain ⟨hf, L, hL, E⟩ := M.hi i hi (by omega) hl
      exact ⟨hf, L, hL, E.mono (hcx _) (hkeep _ _ hL)⟩
    · obtain ⟨hb, k, hj, hqk, hke, hl⟩ := M.ex j L h
      have hne : k ≠ q := fun e => by rw [e, hnot] at hl; cases hl
      exact ⟨hb, k, hj, by omega, hke, by rw [getD_set hsz, if_neg hne]; exact hl⟩
    · exact M.tm_put X ho hlt hnot hcx (tm_of_put (s1 := s0) (X.nd (Nat.le_of_lt hlt)).1 hs) fun m _ => hvr.mono (cxm_base m)

/-- An operation that only reads. -/
theorem step_obs (M : Mid C B w0 ops s0 st listed q c0 ec act w) (X : Drawn C R ops s0 st) (hnorm : q = ops.size ∨ (eff ops q ∧ listed.getD q false = false)) {i : Nat} {o : Oper} (ho : ops[i]? = some o) (hob : isObs o = true) (hlt : i < ops.size) (hnot : listed.getD i false = false) (hed : ∀ e ∈ edgesAt ops.toList i, listed.getD e false = true)
    {K : Act → World → Prop} {Q : Exit → Act → World → Prop} (hK : ∀ act' w', Mid C B w0 ops s0 st (listed.setIfInBounds i true) q c0 ec act' w' → K act' w') : wpOpIn (fen ro) 0 C.P ops Q i K act w := by
  have hsz : i < listed.size := by rw [M.size]; exact hlt
  have hne : ¬ eff ops i := fun ⟨o', ho', he'⟩ => by rw [ho] at ho'; cases ho'; rw [hob] at he'; cases he'
  have hnx : (st (i + 1)).hp = (st i).hp := X.hp_obs ho hob
  obtain ⟨w1, hk, H⟩ := M.hp
  have hstep := X.step i o ho
  have hst := X.nd (Nat.le_of_lt hlt)
  -- what is left of the region's state, once the value is known
  have fin : ∀ (v : AV) (u : Value), (∀ t, tmf (st (i + 1)).tm t = if o.dst = some t ∧ t < s0.n then v else tmf (st i).tm t) → (∀ m, (FD ops.toList i → (st (i + 1)).hp.next ≤ m) → VR (cxm c0 ec m) v u) →
      Mid C B w0 ops s0 st (listed.setIfInBounds i true) q c0 ec (act.put o.dst u) w := fun v u hs hv => by
    refine ⟨by simp [M.size], M.listed_closed hlt hed, M.le, fun j hj h => ?_, fun j hj h hl => ?_, fun j L h => ?_, M.inj, ⟨w1, hk, H⟩, M.tm_put X ho hlt hnot (fun m => Ctx.le_refl _) hs hv, by rw [put_defers]; exact M.df, M.gr⟩
    · have : j ≠ i := fun e => hne (e ▸ hj)
      rw [getD_set hsz, if_neg this]; exact M.lo j hj h
    · have : j ≠ i := fun e => hne (e ▸ hj)
      rw [getD_set hsz, if_neg this] at hl; exact M.hi j hj h hl
    · obtain ⟨hb, k, hj, hqk, hke, hl⟩ := M.ex j L h
      have : k ≠ i := fun e => hne (e ▸ hke)
      exact ⟨hb, k, hj, hqk, hke, by rw [getD_set hsz, if_neg this]; exact hl⟩
  have tmv : ∀ {v : AV} {h : Hp}, some (({ st i with hp := h } : St).put o.dst v) = some (st (i + 1)) → ∀ t, tmf (st (i + 1)).tm t = if o.dst = some t ∧ t < s0.n then v else tmf (st i).tm t := fun {v h} e t => by
    rw [← Option.some.inj e, tmf_put, hst.1]
  have hlk : ∀ m, (FD ops.toList i → (st i).hp.next ≤ m) → ∀ t ∈ looksOf ops.toList o, VR (cxm c0 ec m) (tmf (st i).tm t) (act.tmps.getD t Go.undef) := fun m hm t ht => M.look X ho hlt hnot hed ht hm
  unfold evStep at hstep
  cases hw : aWanted ops.toList (st i) o with
  | none => rw [hw] at hstep; cases hstep
  | some b =>
    cases b with
    | false =>
      rw [hw] at hstep
      simp only at hstep
      exact wp_skip (c0 := cxm c0 ec (st i).hp.next) ho (hlk _ fun _ => Nat.le_refl _) hw (hK _ _ (fin .undef Go.undef (tmv (h := (st i).hp) hstep) fun m _ => VR.undef _))
    | true =>
      rw [hw] at hstep
      simp only at hstep
      unfold evOp at hstep
      cases ha : aOp C (st i) o with
      | none => rw [ha] at hstep; cases hstep
      | some r =>
        obtain ⟨n, h'⟩ := r
        obtain ⟨hh, v, rfl⟩ := isObs_obs hob ha
        rw [ha] at hstep
        simp only at hstep
        have hlv : ∀ m, (FD ops.toList i → (st i).hp.next ≤ m) → LV (cxm c0 ec m) (st i) act (looksOf ops.toList o) := fun m hm => hlk m hm
        have hG : ∀ m, GR C (cxm c0 ec m) := fun m => M.gr.mono (cxm_base m)
        -- the value at the memory that the region has come to
        have near : (∃ h2, aOp C { st i with hp := (st q).hp } o = some (.val v, h2)) → LV c0 (st i) act (looksOf ops.toList o) → wpOpIn (fen ro) 0 C.P ops Q i K act w := fun ⟨h2, h3⟩ hl0 => by
          have := obs_run (s := { st i with hp := (st q).hp }) hob (LV.ov (s := { st i with hp := (st q).hp }) M.gr hl0) H h3
          obtain ⟨u, hrun, hvr⟩ := this
          exact wp_val ho hl0 hw ha hrun (hK _ _ (fin v u (tmv hstep) fun m _ => hvr.mono (cxm_base m)))
        have low0 : ¬ FD ops.toList i → LV c0 (st i) act (looksOf ops.toList o) := fun hfd => by
          have hl0 := hlv 0 (fun h => (hfd h).elim)
          rw [M.base X (Nat.zero_le _)] at hl0
          exact hl0
        by_cases hfree : isFree o = true
        · by_cases hfd : FD ops.toList i
          · -- with rows that may lie ahead: at an empty memory
            obtain ⟨v2, hv2, h3⟩ := free_op hfree ha { next := max (st q).hp.next (st i).hp.next, objs := .lf, fams := .lf }
            cases hv2
            have Hb := HR.bare w (cxm c0 ec (st i).hp.next) (max (st q).hp.next (st i).hp.next) (fun j hj => by
                unfold cxm
                rw [H.fresh j (by omega)]
                simp only
                rw [if_neg (by omega)]) (fun j L h => by
                unfold cxm at h
                cases hc : c0 j with
                | some P => rw [hc] at h; cases h; exact H.lt j _ hc
                | none =>
                  rw [hc] at h
                  simp only at h
                  split at h
                  · obtain ⟨_, k, rfl, hqk, hke, hl⟩ := M.ex j L h
                    obtain ⟨_, L2, hL2, E⟩ := M.hi k hke hqk hl
                    rw [h] at hL2; cases hL2
                    exact E.lt
                  · cases h)
            have := obs_run (s := { st i with hp := { next := max (st q).hp.next (st i).hp.next, objs := .lf, fams := .lf } }) hob (LV.ov (s := { st i with hp := { next := max (st q).hp.next (st i).hp.next, objs := .lf, fams := .lf } }) (hG _) (hlv _ fun _ => Nat.le_refl _)) Hb h3
            obtain ⟨u, hrun, hvr⟩ := this
            exact wp_val ho (hlk _ fun _ => Nat.le_refl _) hw ha hrun (hK _ _ (fin v u (tmv hstep) fun m hm => hvr.mono (cxm_mono (by rw [← hnx]; exact hm hfd))))
          · obtain ⟨v2, hv2, h3⟩ := free_op hfree ha (st q).hp
            cases hv2
            exact near ⟨_, h3⟩ (low0 hfd)
        · have hfr : isFree o = false := by simpa using hfree
          have hl0 : LV c0 (st i) act (looksOf ops.toList o) := by
            by_cases hfd : FD ops.toList i
            · obtain ⟨k, hk, hki⟩ := hfd
              rcases hki with rfl | hki
              · obtain ⟨ok, hok, hal, _⟩ := hk
                rw [show ops.toList[k]? = some o from by simpa using ho] at hok
                cases hok
                rw [isAl_obs hal] at hob
                cases hob
              · have hall := X.flt k i o hk ho hob hfr (preB_of X.low hki)
                have hiq : i ≤ q := by
                  rcases hnorm with hn | ⟨⟨oq, hoq, hobq⟩, hql⟩
                  · omega
                  · rcases Nat.lt_or_ge q i with h | h
                    · have := (preB_spec X.low (hall q oq h hoq hobq)).2 _ M.closed hed
                      exact absurd (hql.symm.trans this) (by simp)
                    · exact h
                have hm := hlv (st i).hp.next (fun _ => Nat.le_refl _)
                rw [M.base X (X.mono k hk i q hiq M.le)] at hm
                exact hm
            · exact low0 hfd
          refine near ?_ hl0
          have use : obsOk C ops.toList o (st i) (st q).hp = true → ∃ h2, aOp C { st i with hp := (st q).hp } o = some (.val v, h2) := fun hb => by
            unfold obsOk at hb
            rw [hw] at hb
            simp only at hb
            rw [ha] at hb
            split at hb
            · rename_i v1 h1 u2 h2 e1 e2
              cases e1
              rw [same_eq _ _ hb]
              exact ⟨_, e2⟩
            · cases hb
          have sameh : (st i).hp = (st q).hp → ∃ h2, aOp C { st i with hp := (st q).hp } o = some (.val v, h2) := fun e => ⟨h', by rw [← e]; exact ha⟩
          rcases Nat.lt_or_ge q i with hq | hq
          · rcases X.next_eff (Nat.le_of_lt hq) (by omega) with h | ⟨e, h1, h2, h3, h4⟩
            · exact sameh h.symm
            · rcases hnorm with hn | ⟨hqe, hql⟩
              · omega
              · obtain ⟨oe, hoe, hee⟩ := hqe
                refine use ?_
                have := X.dyn i q o oe ho hoe hob hfr hee (by
                  cases hp : preB (pres ops.toList) q i with
                  | false => rfl
                  | true =>
                    have := (preB_spec X.low hp).2 _ M.closed hed
                    exact absurd (hql.symm.trans this) (by simp)) (by
                  cases hp : preB (pres ops.toList) i q with
                  | false => rfl
                  | true => have := (preB_spec X.low hp).1; omega)
                rw [if_neg (by omega)] at this
                exact this
          · rcases X.prev_eff hq M.le with h | ⟨e, h1, h2, h3, h4⟩
            · exact sameh h
            · obtain ⟨oe, hoe, hee⟩ := h3
              have hl : listed.getD e false = true := M.lo e ⟨oe, hoe, hee⟩ h2
              have hei : e ≠ i := fun e' => by rw [e', ho] at hoe; cases hoe; rw [hob] at hee; cases hee
              refine use ?_
              have := X.dyn i e o oe ho hoe hob hfr hee (by
                cases hp : preB (pres ops.toList) e i with
                | false => rfl
                | true => have := (preB_spec X.low hp).1; omega) (by
                cases hp : preB (pres ops.toList) i e with
                | false => rfl
                | true =>
                  have := (preB_spec X.low hp).2 _ M.closed (M.closed e hl)
                  exact absurd (hnot.symm.trans this) (by simp))
              rw [if_pos (by omega)] at this
              rw [h4]; exact this

theorem ec_lt (M : Mid C B w0 ops s0 st listed q c0 ec act w) {j : Nat} {N : Loc} (h : ec j = some N) : N.blk < w.heap.size := by
  obtain ⟨_, k, rfl, hqk, hke, hl⟩ := M.ex j N h
  obtain ⟨_, L2, hL2, E⟩ := M.hi k hke hqk hl
  rw [h] at hL2; cases hL2
  exact E.lt
theorem isAl_wanted {o : Oper} (h : isAl o = true) (ops : List Oper) (s : St) : aWanted ops s o = some true := by
  unfold isAl at h
  rw [Bool.and_eq_true] at h
  have h1 : o.guard = none := by simpa using h.1
  unfold aWanted
  rw [h1]

/-- A row that is laid ahead. -/
theorem step_al (M : Mid C B w0 ops s0 st listed q c0 ec act w) (X : Drawn C R ops s0 st) (hqe : eff ops q) (hql : listed.getD q false = false) {i : Nat} {o : Oper} (ho : ops[i]? = some o) (hal : isAl o = true) (hlt : i < ops.size) (hnot : listed.getD i false = false) (hed : ∀ e ∈ edgesAt ops.toList i, listed.getD e false = true) (hqi : q < i)
    {K : Act → World → Prop} {Q : Exit → Act → World → Prop} (hK : ∀ ec' act' w', Mid C B w0 ops s0 st (listed.setIfInBounds i true) q c0 ec' act' w' → K act' w') : wpOpIn (fen ro) 0 C.P ops Q i K act w := by
  have hsz : i < listed.size := by rw [M.size]; exact hlt
  have hob := isAl_obs hal
  have hei : eff ops i := ⟨o, ho, hob⟩
  have hf : Flt ops.toList i := by
    obtain ⟨oq, hoq, hobq⟩ := hqe
    refine ⟨o, by simpa using ho, hal, q, oq, hqi, by simpa using hoq, hobq, ?_⟩
    cases hp : preB (pres ops.toList) q i with
    | false => rfl
    | true =>
      have := (preB_spec X.low hp).2 _ M.closed hed
      exact absurd (hql.symm.trans this) (by simp)
  have hfd : FD ops.toList i := ⟨i, hf, .inl rfl⟩
  have hst := X.nd (Nat.le_of_lt hlt)
  obtain ⟨w1, hk, H⟩ := M.hp
  have hstep := X.step i o ho
  unfold evStep at hstep
  have hw := isAl_wanted hal ops.toList (st i)
  rw [hw] at hstep
  simp only at hstep
  unfold evOp at hstep
  cases ha : aOp C (st i) o with
  | none => rw [ha] at hstep; cases hstep
  | some r =>
    obtain ⟨n, h'⟩ := r
    obtain ⟨elem, cells, mk, rfl, rfl, _, hrow⟩ := al_run hal ha
    rw [ha] at hstep
    simp only at hstep
    have hhp : (st (i + 1)).hp = (st i).hp.row elem cells := by rw [← Option.some.inj hstep, put_hp]
    have hnx : (st (i + 1)).hp.next = (st i).hp.next + 1 := by rw [hhp]; rfl
    have htm : ∀ t, tmf (st (i + 1)).tm t = if o.dst = some t ∧ t < s0.n then mk (st i).hp.next else tmf (st i).tm t := fun t => by
      rw [← Option.some.inj hstep, tmf_put, hst.1]
    have hlk : LV (cxm c0 ec (st i).hp.next) (st i) act (looksOf ops.toList o) := fun t ht => M.look X ho hlt hnot hed ht fun _ => Nat.le_refl _
    obtain ⟨vs, u, hrun, hvs, h1, hu⟩ := hrow (cxm c0 ec (st i).hp.next) act w (LV.ov (M.gr.mono (cxm_base _)) hlk)
    have hnone : ec (st i).hp.next = none := by
      cases he : ec (st i).hp.next with
      | none => rfl
      | some N =>
        obtain ⟨_, k, hj, hqk, hke, hl⟩ := M.ex _ N he
        obtain ⟨hfk, _, _, E⟩ := M.hi k hke hqk hl
        have hkn := E.next
        have hne : k ≠ i := fun e => by rw [e, hnot] at hl; cases hl
        rcases Nat.lt_or_ge k i with h | h
        · have := X.mono k hfk (k + 1) i h (Nat.le_of_lt hlt); omega
        · have := X.mono k hfk (i + 1) k (by omega) (Nat.le_of_lt (size_eff hke)); omega
    let ec' : Nat → Option Loc := fun j => if j = (st i).hp.next then some ⟨w.heap.size, 0, vs.length⟩ else ec j
    have hnew : ec' (st i).hp.next = some ⟨w.heap.size, 0, vs.length⟩ := by simp only [ec', if_true]
    have hold : ∀ {j N}, ec j = some N → ec' j = some N := fun {j N} h => by
      simp only [ec']
      rw [if_neg (fun e => by rw [e, hnone] at h; cases h)]; exact h
    have hinv : ∀ {j N}, ec' j = some N → (j = (st i).hp.next ∧ N = ⟨w.heap.size, 0, vs.length⟩) ∨ ec j = some N := fun {j N} h => by
      simp only [ec'] at h
      split at h
      · rename_i e; cases h; exact .inl ⟨e, rfl⟩
      · exact .inr h
    have hcx : ∀ m, Ctx.le (cxm c0 ec m) (cxm c0 ec' m) := fun m j N h => by
      unfold cxm at h ⊢
      cases hc : c0 j with
      | some P => rw [hc] at h; exact h
      | none =>
        rw [hc] at h
        simp only at h ⊢
        split at h
        · rename_i hm; rw [if_pos hm]; exact hold h
        · cases h
    have hmono : (st q).hp.next ≤ (st i).hp.next := X.mono i hf q i (Nat.le_of_lt hqi) (Nat.le_of_lt hlt)
    have HA : HR (BE B ec') (w.alloc (.cells ⟨vs⟩ elem)) c0 (st q).hp (w.alloc (.cells ⟨vs⟩ elem)) := H.aside (.cells ⟨vs⟩ elem) (fun k h => by
        rcases h with h | ⟨j, N, hN, hb⟩
        · exact .inl (.inl h)
        · rcases hinv hN with ⟨_, rfl⟩ | hN
          · exact .inr hb.symm
          · exact .inl (.inr ⟨j, N, hN, hb⟩)) (fun k h => by
        rcases h with h | ⟨j, N, hN, hb⟩
        · exact .inl (.inl h)
        · rcases hinv hN with ⟨_, rfl⟩ | hN
          · exact .inr hb.symm
          · exact .inl (.inr ⟨j, N, hN, hb⟩))
    have hkA : Keep B.keep w0 (w.alloc (.cells ⟨vs⟩ elem)) := (hk.trans (H.below.mono fun k h => .inl h)).alloc (fun k h => H.hB k (.inl h)) _
    have hstay : ∀ {j N}, ec j = some N → (w.alloc (.cells ⟨vs⟩ elem)).heap[N.blk]? = w.heap[N.blk]? := fun h => heap_alloc_old _ _ _ (M.ec_lt h)
    refine wp_val ho hlk hw ha hrun (hK ec' _ _ ⟨by simp [M.size], M.listed_closed hlt hed, M.le, fun j hj h => ?_, fun j hj h hl => ?_, fun j N h => ?_, fun a b N P hN hP hb => ?_, ⟨_, hkA, HA⟩, ?_, by rw [put_defers]; exact M.df, M.gr⟩)
    · rw [getD_set hsz, if_neg (by omega)]; exact M.lo j hj h
    · by_cases e : j = i
      · subst e
        exact ⟨hf, _, hnew, elem, cells, vs, hhp, rfl, heap_alloc_new _ _, hvs.mono (hcx _), h1⟩
      · rw [getD_set hsz, if_neg e] at hl
        obtain ⟨hfj, N, hN, E⟩ := M.hi j hj h hl
        exact ⟨hfj, N, hold hN, E.mono (hcx _) (hstay hN)⟩
    · rcases hinv h with ⟨rfl, rfl⟩ | h
      · exact ⟨fun hh => Nat.lt_irrefl _ (H.hB _ (.inl hh)), i, rfl, Nat.le_of_lt hqi, hei, by rw [getD_set hsz, if_pos rfl]⟩
      · obtain ⟨hb, k, hj, hqk, hke, hl⟩ := M.ex j N h
        refine ⟨hb, k, hj, hqk, hke, ?_⟩
        rw [getD_set hsz]
        split
        · rfl
        · exact hl
    · rcases hinv hN with ⟨rfl, rfl⟩ | hN
      · rcases hinv hP with ⟨rfl, rfl⟩ | hP
        · rfl
        · have := M.ec_lt hP
          simp only at hb; omega
      · rcases hinv hP with ⟨rfl, rfl⟩ | hP
        · have := M.ec_lt hN
          simp only at hb; omega
        · exact M.inj a b N P hN hP hb
    · refine M.tm_put X ho hlt hnot hcx htm fun m hm => hu _ _ ?_
      have := hm hfd
      unfold cxm
      rw [H.fresh _ hmono]
      simp only
      rw [if_pos (by omega)]
      exact hnew

theorem go (X : Drawn C R ops s0 st) (RC : CallOK C R B w0) (RY : YldOK C R B w0) (RE : ExtOK C) {Q : Exit → Act → World → Prop} : ∀ (fuel : Nat) (listed : Array Bool) (q : Nat) (c0 : Ctx) (ec : Nat → Option Loc) (act : Act) (w : World), Mid C B w0 ops s0 st listed q c0 ec act w → listed.toList.count false ≤ fuel →
    (∀ c' act' w', Ctx.le c0 c' → SR B w0 c' (st ops.size) act' w' → Q .normal act' w') → wpAnyIn (fen ro) 0 C.P .any ops Q fuel listed act w := by
  have done : ∀ (listed : Array Bool) (q : Nat) (c0 : Ctx) (ec : Nat → Option Loc) (act : Act) (w : World), Mid C B w0 ops s0 st listed q c0 ec act w →
      (∀ c' act' w', Ctx.le c0 c' → SR B w0 c' (st ops.size) act' w' → Q .normal act' w') → Region.ready .any ops listed = [] → Q .normal act w := by
    intro listed q c0 ec act w M hQ hr
    have hall := X.all_listed M.size hr
    obtain ⟨q', c1, e1, hle, M1, hnorm⟩ := normal X (ops.size - q) q c0 ec M (Nat.le_refl _)
    have hq : q' = ops.size := by
      rcases hnorm with h | ⟨he, hl⟩
      · exact h
      · have := hall q' (size_eff he)
        rw [hl] at this; cases this
    subst hq
    obtain ⟨hn, hdf⟩ := X.nd (Nat.le_refl ops.size)
    obtain ⟨w1, hk, H⟩ := M1.hp
    refine hQ c1 act w hle ⟨?_, (H.less (fun k h => .inl h) (fun k h => .inl h)).based (hk.trans (H.below.mono fun k h => .inl h)), by rw [hdf]; exact M1.df⟩
    have hmix : mixf ops s0 (st ops.size) listed = tmf (st ops.size).tm := funext fun t => by
      by_cases h : ∃ j, dstAt ops j = some t
      · obtain ⟨j, hj⟩ := h
        exact mixf_in (X.lt_of_dst hj) hj (hall j (X.lt_of_dst hj))
      · have hnn : ∀ j, dstAt ops j ≠ some t := fun j hj => h ⟨j, hj⟩
        rw [X.never hnn (Nat.le_refl _)]
        exact mixf_out fun j hj => absurd hj (hnn j)
    have T := M1.tm
    rw [hmix] at T
    rw [hn]
    refine ⟨T.size, fun t ht => ?_, T.out⟩
    obtain ⟨v, hv, hr⟩ := T.val t ht
    refine ⟨v, hv, ?_⟩
    have := hr (st ops.size).hp.next fun j hj _ hfd => by
      have hlt := X.lt_of_dst hj
      obtain ⟨k, hk, _⟩ := hfd
      exact X.mono k hk (j + 1) ops.size hlt (Nat.le_refl _)
    rw [M1.base X (Nat.le_refl _)] at this
    exact this
  intro fuel
  induction fuel with
  | zero =>
    intro listed q c0 ec act w M hcount hQ
    have hr : Region.ready .any ops listed = [] := by
      cases hr : Region.ready .any ops listed with
      | nil => rfl
      | cons i l =>
        have hm : i ∈ Region.ready .any ops listed := by rw [hr]; simp
        exact (count_zero (getD_of (mem_ready.1 hm).1).2.1 hcount).elim
    exact ⟨hr, done listed q c0 ec act w M hQ hr⟩
  | succ fuel ih =>
    intro listed q c0 ec act w M hcount hQ
    refine ⟨done listed q c0 ec act w M hQ, fun i hm => ?_⟩
    obtain ⟨h0, o, ho, hall⟩ := mem_ready.1 hm
    obtain ⟨hsz, hget, hnot⟩ := getD_of h0
    have hlt : i < ops.size := by rw [← M.size]; exact hsz
    have hed : ∀ e ∈ edgesAt ops.toList i, listed.getD e false = true := fun e he => by
      rw [edgesAt_of ho] at he
      obtain ⟨e', he', hb, rfl⟩ := edge_of he
      exact hall e' he' hb
    obtain ⟨q', c1, e1, hle, M1, hnorm⟩ := normal X (ops.size - q) q c0 ec M (Nat.le_refl _)
    have hcd := count_down hsz hget hcount
    cases hob : isObs o with
    | true =>
      exact step_obs M1 X hnorm ho hob hlt hnot hed fun act' w' M2 => ih _ q' c1 e1 act' w' M2 hcd fun c2 act2 w2 hle2 S2 => hQ c2 act2 w2 (Ctx.le_trans hle hle2) S2
    | false =>
      have hei : eff ops i := ⟨o, ho, hob⟩
      rcases hnorm with hq | ⟨hqe, hql⟩
      · have := M1.lo i hei (by omega)
        rw [hnot] at this; cases this
      · rcases Nat.lt_trichotomy i q' with h | h | h
        · have := M1.lo i hei h
          rw [hnot] at this; cases this
        · subst h
          exact step_main M1 X RC RY RE ho hob hlt hnot hed fun c2 act' w' hle2 M2 => ih _ _ c2 e1 act' w' M2 hcd fun c3 act3 w3 hle3 S3 => hQ c3 act3 w3 (Ctx.le_trans hle (Ctx.le_trans hle2 hle3)) S3
        · have hal : isAl o = true := by
            obtain ⟨oq, hoq, hobq⟩ := hqe
            have hp := X.pair q' i oq o hoq ho (by omega)
            unfold pairOk at hp
            rw [Bool.and_eq_true] at hp
            have h2 := hp.2
            rw [hobq, hob, show Nat.blt q' i = true from Nat.ble_eq_true_of_le h] at h2
            simp only [Bool.false_or, Bool.or_eq_true, cond_true] at h2
            rcases h2 with (h2 | h2) | h2
            · have := (preB_spec X.low h2).2 _ M1.closed hed
              exact absurd (hql.symm.trans this) (by simp)
            · have := (preB_spec X.low h2).1; omega
            · exact h2
          exact step_al M1 X hqe hql ho hal hlt hnot hed h fun e2 act' w' M2 => ih _ q' c1 e2 act' w' M2 hcd fun c3 act3 w3 hle3 S3 => hQ c3 act3 w3 (Ctx.le_trans hle hle3) S3
end Mid

theorem draw_sound (hm : C.P.follows .mixedOrders = true) (RC : CallOK C R B w0) (RY : YldOK C R B w0) (RE : ExtOK C) {id : Nat} {Q : Exit → Act → World → Prop} {c : Ctx} {s s' : St} {act : Act} {w : World} (G : GR C c) (S : SR B w0 c s act w)
    (e : evDraw C R ops.toList s = some s') (hQ : ∀ c' act' w', Ctx.le c c' → SR B w0 c' s' act' w' → Q .normal act' w') : (Code.region id ops true).wpIn (fen ro) 0 C.P Q act w := by
  obtain ⟨st, X, hs'⟩ := evDraw_drawn e
  subst hs'
  have hno : ∀ i, (Array.replicate ops.size false).getD i false = false := fun i => by
    rw [Array.getD_eq_getD_getElem?, Array.getElem?_replicate]
    split <;> rfl
  have hmix : mixf ops s (st ops.size) (Array.replicate ops.size false) = tmf s.tm := funext fun t => mixf_out fun i _ => hno i
  have hbe : ∀ i L, (fun _ => none : Nat → Option Loc) i = some L → False := fun i L h => by cases h
  have H0 : HR (BE B fun _ => none) w c s.hp { w with drawn := w.drawn + 1 } := by
    have h1 : HR (BE B fun _ => none) w0 c s.hp w := S.hp.less (fun k h => h.elim (fun h => h) fun ⟨i, L, h, _⟩ => (hbe i L h).elim) (fun k h => h.elim (fun h => h) fun ⟨i, L, h, _⟩ => (hbe i L h).elim)
    exact (h1.based (Keep.refl _ _)).drew
  refine wpIn_region_any hm (Mid.go X RC RY RE ops.size (Array.replicate ops.size false) 0 c (fun _ => none) act _ ⟨by simp, fun j hj => ?_, Nat.zero_le _, fun i _ h => (by omega), fun i _ _ h => ?_, fun j L h => (by cases h), fun i j L N h => (by cases h), ⟨w, S.hp.below, by rw [X.zero]; exact H0⟩, ?_, S.df, G⟩ ?_ hQ)
  · simp only [hno] at hj; cases hj
  · rw [hno] at h; cases h
  · rw [hmix]
    exact ⟨S.tm.size, fun t ht => by
      obtain ⟨v, hv, hr⟩ := S.tm.val t ht
      exact ⟨v, hv, fun m _ => hr.mono (cxm_base m)⟩, S.tm.out⟩
  · rw [Array.toList_replicate, List.count_replicate]
    simp
end
end Go.Ev
