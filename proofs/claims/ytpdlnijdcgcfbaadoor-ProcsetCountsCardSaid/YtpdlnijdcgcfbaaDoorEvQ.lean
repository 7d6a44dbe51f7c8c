/-
  A region whose order is open, walked in the machine.
-/
import Derived.Test.YtpdlnijdcgcfbaaDoorEvP
set_option linter.unusedSimpArgs false
set_option linter.unusedVariables false
set_option linter.unusedSectionVars false
namespace Go.Ev
open Go Go.RowKit

/-- What is known of a region that the evaluator has been through. -/
structure Drawn (C : Cfg) (R : Rec) (ops : Array Oper) (s0 : St) (st : Nat → St) : Prop where
  zero : st 0 = s0
  step : ∀ k o, ops[k]? = some o → evStep C R ops.toList (st k) o = some (st (k + 1))
  low : ∀ j, ∀ i ∈ edgesAt ops.toList j, i < j
  pair : ∀ i j oi oj, ops[i]? = some oi → ops[j]? = some oj → i ≠ j → pairOk ops.toList (pres ops.toList) i j oi oj = true
  dyn : ∀ j e oj oe, ops[j]? = some oj → ops[e]? = some oe → isObs oj = true → isObs oe = false → preB (pres ops.toList) e j = false → preB (pres ops.toList) j e = false →
    obsOk C ops.toList oj (st j) (st (if j < e then e + 1 else e)).hp = true

theorem evDraw_drawn {C : Cfg} {R : Rec} {ops : Array Oper} {s s' : St} (e : evDraw C R ops.toList s = some s') : ∃ st, Drawn C R ops s st ∧ st ops.size = s' := by
  unfold evDraw at e
  cases hs : drawStatic ops.toList with
  | false => rw [hs] at e; cases e
  | true =>
    rw [hs] at e
    simp only [cond_true] at e
    cases ht : trace C R ops.toList ops.toList s with
    | none => rw [ht] at e; cases e
    | some tr =>
      rw [ht] at e
      simp only at e
      cases hd : drawDyn C ops.toList tr with
      | false => rw [hd] at e; cases e
      | true =>
        rw [hd] at e
        simp only [cond_true] at e
        obtain ⟨h0, hlen, hst⟩ := trace_spec ops.toList s tr ht
        obtain ⟨hlow, hpair⟩ := drawStatic_spec hs
        have stk : ∀ (k : Nat) (x : St), tr[k]? = some x → (tr[k]?).getD s = x := fun k x h => by rw [h]; rfl
        refine ⟨fun k => (tr[k]?).getD s, ⟨stk 0 s h0, fun k o hk => ?_, hlow, fun i j oi oj hi hj hne => hpair i j oi oj (by simpa using hi) (by simpa using hj) hne, fun j e' oj oe hj he ho hoe h1 h2 => ?_⟩, ?_⟩
        · obtain ⟨a, b, ha, hb, hab⟩ := hst k o (by simpa using hk)
          simp only [stk k a ha, stk (k + 1) b hb]
          exact hab
        · unfold drawDyn at hd
          rw [Bool.or_eq_true] at hd
          rcases hd with hd | hd
          · rw [List.all_eq_true] at hd
            have := hd oe (List.mem_of_getElem? (by simpa using he))
            rw [hoe] at this; cases this
          · rw [List.all_eq_true] at hd
            have h3 := hd (oj, j) (List.mem_zipIdx_iff_getElem?.2 (by simpa using hj))
            rw [List.all_eq_true] at h3
            have h4 := h3 (oe, e') (List.mem_zipIdx_iff_getElem?.2 (by simpa using he))
            simp only [pairDyn, ho, hoe, h1, h2, Bool.not_true, Bool.false_or] at h4
            split at h4
            · rename_i a b ha hb
              rw [stk j a ha, stk _ b hb]
              exact h4
            · cases h4
        · have hl : ops.toList.length = ops.size := Array.length_toList
          rw [hl] at e
          exact stk _ _ e

section
variable {C : Cfg} {R : Rec} {B : Nat} {w0 : World} {ro : Option Nat} {ops : Array Oper} {s0 : St} {st : Nat → St}

def eff (ops : Array Oper) (i : Nat) : Prop := ∃ o, ops[i]? = some o ∧ isObs o = false
noncomputable def dstAt (ops : Array Oper) (i : Nat) : Option Tmp := (ops[i]?).bind (·.dst)

namespace Drawn
variable (X : Drawn C R ops s0 st)
include X

theorem put {k : Nat} {o : Oper} (hk : ops[k]? = some o) : ∃ v, st (k + 1) = ({ st k with hp := (st (k + 1)).hp } : St).put o.dst v := evStep_put (X.step k o hk)

theorem tm_step {k : Nat} {o : Oper} (hk : ops[k]? = some o) : ∃ v, ∀ t, tmf (st (k + 1)).tm t = if o.dst = some t ∧ t < (st k).n then v else tmf (st k).tm t := by
  obtain ⟨v, hv⟩ := X.put hk
  refine ⟨v, fun t => ?_⟩
  rw [hv]
  exact tmf_put _ _ _ _ _

theorem nd {k : Nat} (hk : k ≤ ops.size) : (st k).n = s0.n ∧ (st k).df = s0.df := by
  induction k with
  | zero => rw [X.zero]; exact ⟨rfl, rfl⟩
  | succ k ih =>
    obtain ⟨v, hv⟩ := X.put (k := k) (o := ops[k]'(by omega)) (Array.getElem?_eq_getElem (by omega))
    obtain ⟨h1, h2⟩ := ih (by omega)
    rw [hv, put_n, put_df]
    exact ⟨h1, h2⟩

theorem tm_keep {a b : Nat} (hab : a ≤ b) (hb : b ≤ ops.size) {t : Tmp} (h : ∀ k, a ≤ k → k < b → dstAt ops k ≠ some t) : tmf (st b).tm t = tmf (st a).tm t := by
  induction b with
  | zero => have : a = 0 := by omega
            rw [this]
  | succ b ih =>
    by_cases e : a = b + 1
    · rw [e]
    · have hk : ops[b]? = some (ops[b]'(by omega)) := Array.getElem?_eq_getElem (by omega)
      obtain ⟨v, hv⟩ := X.tm_step hk
      rw [hv, if_neg, ih (by omega) (by omega) (fun k h1 h2 => h k h1 (by omega))]
      rintro ⟨hd, _⟩
      exact h b (by omega) (by omega) (by unfold dstAt; rw [hk]; exact hd)

theorem uniq {i j : Nat} {t : Tmp} (hi : dstAt ops i = some t) (hj : dstAt ops j = some t) : i = j := by
  apply Decidable.byContradiction
  intro hne
  unfold dstAt at hi hj
  obtain ⟨oi, hoi, hdi⟩ := Option.bind_eq_some_iff.1 hi
  obtain ⟨oj, hoj, hdj⟩ := Option.bind_eq_some_iff.1 hj
  have := X.pair i j oi oj hoi hoj hne
  unfold pairOk at this
  rw [hdi, Bool.and_eq_true] at this
  have h1 := this.1
  simp only [Bool.and_eq_true] at h1
  have h2 := h1.1
  rw [hdj] at h2
  simp at h2

theorem lt_of_dst {i : Nat} {t : Tmp} (hi : dstAt ops i = some t) : i < ops.size := by
  unfold dstAt at hi
  obtain ⟨oi, hoi, _⟩ := Option.bind_eq_some_iff.1 hi
  rcases Nat.lt_or_ge i ops.size with h | h
  · exact h
  · rw [Array.getElem?_eq_none h] at hoi; cases hoi

/-- Ahead of its own operation a temporary is what it was. -/
theorem before {i k : Nat} {t : Tmp} (hi : dstAt ops i = some t) (hk : k ≤ i) : tmf (st k).tm t = tmf s0.tm t := by
  have hlt := X.lt_of_dst hi
  rw [X.tm_keep (Nat.zero_le k) (by omega) (t := t) (fun j _ hj hd => by have := X.uniq hi hd; omega), X.zero]
/-- Behind it, what it will be. -/
theorem after {i k : Nat} {t : Tmp} (hi : dstAt ops i = some t) (hk : i < k) (hks : k ≤ ops.size) : tmf (st k).tm t = tmf (st ops.size).tm t :=
  (X.tm_keep hks (Nat.le_refl _) (t := t) (fun j h1 _ hd => by have := X.uniq hi hd; omega)).symm
theorem never {k : Nat} {t : Tmp} (h : ∀ i, dstAt ops i ≠ some t) (hk : k ≤ ops.size) : tmf (st k).tm t = tmf s0.tm t := by
  rw [X.tm_keep (Nat.zero_le k) hk (t := t) (fun j _ _ => h j), X.zero]

theorem hp_obs {k : Nat} {o : Oper} (hk : ops[k]? = some o) (ho : isObs o = true) : (st (k + 1)).hp = (st k).hp := by
  have e := X.step k o hk
  unfold evStep at e
  split at e
  · unfold evOp at e
    cases ha : aOp C (st k) o with
    | none => rw [ha] at e; cases e
    | some r =>
      obtain ⟨n, h'⟩ := r
      obtain ⟨hh, v, hv⟩ := isObs_obs ho ha
      subst hv
      rw [ha] at e
      simp only [Option.some.injEq] at e
      rw [← e, put_hp, hh]
  · simp only [Option.some.injEq] at e
    rw [← e, put_hp]
  · cases e

theorem hp_between {a b : Nat} (hab : a ≤ b) (hb : b ≤ ops.size) (h : ∀ k, a ≤ k → k < b → ¬ eff ops k) : (st b).hp = (st a).hp := by
  induction b with
  | zero => have : a = 0 := by omega
            rw [this]
  | succ b ih =>
    by_cases e : a = b + 1
    · rw [e]
    · have hk : ops[b]? = some (ops[b]'(by omega)) := Array.getElem?_eq_getElem (by omega)
      rw [X.hp_obs hk (by
        cases ho : isObs (ops[b]'(by omega)) with
        | true => rfl
        | false => exact absurd ⟨_, hk, ho⟩ (h b (by omega) (by omega)))]
      exact ih (by omega) (by omega) fun k h1 h2 => h k h1 (by omega)

theorem next_eff {a b : Nat} (hab : a ≤ b) (hb : b ≤ ops.size) : (st a).hp = (st b).hp ∨ ∃ e, a ≤ e ∧ e < b ∧ eff ops e ∧ (st a).hp = (st e).hp := by
  obtain ⟨d, rfl⟩ : ∃ d, b = a + d := ⟨b - a, by omega⟩
  induction d generalizing a with
  | zero => exact .inl rfl
  | succ d ih =>
    by_cases he : eff ops a
    · exact .inr ⟨a, Nat.le_refl _, by omega, he, rfl⟩
    · have h1 : (st (a + 1)).hp = (st a).hp := X.hp_between (by omega) (by omega) fun k h1 h2 => by have : k = a := by omega
                                                                                                    rw [this]; exact he
      rcases ih (a := a + 1) (by omega) (by omega) with h | ⟨e, h2, h3, h4, h5⟩
      · exact .inl (by rw [← h1, h]; congr 2; omega)
      · exact .inr ⟨e, by omega, by omega, h4, by rw [← h1, h5]⟩
theorem prev_eff {a b : Nat} (hab : a ≤ b) (hb : b ≤ ops.size) : (st a).hp = (st b).hp ∨ ∃ e, a ≤ e ∧ e < b ∧ eff ops e ∧ (st b).hp = (st (e + 1)).hp := by
  induction b with
  | zero => have : a = 0 := by omega
            rw [this]; exact .inl rfl
  | succ b ih =>
    by_cases e : a = b + 1
    · rw [e]; exact .inl rfl
    · by_cases he : eff ops b
      · exact .inr ⟨b, by omega, by omega, he, rfl⟩
      · have h1 : (st (b + 1)).hp = (st b).hp := X.hp_between (by omega) (by omega) fun k h1 h2 => by have : k = b := by omega
                                                                                                      rw [this]; exact he
        rcases ih (by omega) (by omega) with h | ⟨e, h2, h3, h4, h5⟩
        · exact .inl (by rw [h1, h])
        · exact .inr ⟨e, by omega, by omega, h4, by rw [h1, h5]⟩
end Drawn

/-- How far a region has come: the listed operations, and how many of the effects. -/
structure Far (ops : Array Oper) (listed : Array Bool) (q : Nat) : Prop where
  size : listed.size = ops.size
  closed : Closed ops.toList (fun i => listed.getD i false = true)
  le : q ≤ ops.size
  effs : ∀ i, eff ops i → (listed.getD i false = true ↔ i < q)

/-- The temporaries on the way. -/
noncomputable def mixf (ops : Array Oper) (s0 sN : St) (listed : Array Bool) (t : Nat) : AV :=
  if (List.range ops.size).any (fun i => decide (dstAt ops i = some t) && listed.getD i false) = true then tmf sN.tm t else tmf s0.tm t
theorem mixf_in {sN : St} {listed : Array Bool} {t i : Nat} (hi : i < ops.size) (hd : dstAt ops i = some t) (hl : listed.getD i false = true) : mixf ops s0 sN listed t = tmf sN.tm t := by
  unfold mixf
  rw [if_pos]
  rw [List.any_eq_true]
  exact ⟨i, List.mem_range.2 hi, by rw [hl]; simp [hd]⟩
theorem mixf_out {sN : St} {listed : Array Bool} {t : Nat} (h : ∀ i, dstAt ops i = some t → listed.getD i false = false) : mixf ops s0 sN listed t = tmf s0.tm t := by
  unfold mixf
  rw [if_neg]
  rw [List.any_eq_true]
  rintro ⟨i, _, hi⟩
  rw [Bool.and_eq_true] at hi
  have hd : dstAt ops i = some t := by simpa using hi.1
  rw [h i hd] at hi
  exact absurd hi.2 (by simp)

theorem getD_of {listed : Array Bool} {i : Nat} (h : listed.getD i true = false) : i < listed.size ∧ listed[i]? = some false ∧ listed.getD i false = false := by
  rw [Array.getD_eq_getD_getElem?] at h
  cases hx : listed[i]? with
  | none => rw [hx] at h; cases h
  | some b =>
    rw [hx] at h
    simp only [Option.getD_some] at h
    subst h
    refine ⟨?_, rfl, by rw [Array.getD_eq_getD_getElem?, hx]; rfl⟩
    rcases Nat.lt_or_ge i listed.size with h | h
    · exact h
    · rw [Array.getElem?_eq_none h] at hx; cases hx
theorem getD_set {listed : Array Bool} {i : Nat} (hi : i < listed.size) (j : Nat) : (listed.setIfInBounds i true).getD j false = if j = i then true else listed.getD j false := by
  rw [Array.getD_eq_getD_getElem?, Array.getD_eq_getD_getElem?]
  by_cases e : j = i
  · subst e
    rw [if_pos rfl, Array.getElem?_setIfInBounds_self_of_lt hi]; rfl
  · rw [if_neg e, Array.getElem?_setIfInBounds_ne (fun h => e h.symm)]
theorem count_down {listed : Array Bool} {i : Nat} (hi : i < listed.size) (h : listed[i]? = some false) {k : Nat} (hk : listed.toList.count false ≤ k + 1) : (listed.setIfInBounds i true).toList.count false ≤ k := by
  rw [Array.toList_setIfInBounds, List.count_set (by simpa using hi)]
  have hx : listed.toList[i]'(by simpa using hi) = false := by
    rw [Array.getElem?_eq_getElem hi] at h
    simpa using h
  rw [hx]
  show listed.toList.count false - (if (false == false) = true then 1 else 0) + (if (true == false) = true then 1 else 0) ≤ k
  rw [if_pos (show (false == false) = true from rfl), if_neg (show ¬ (true == false) = true by decide)]
  omega
theorem count_zero {listed : Array Bool} {i : Nat} (h : listed[i]? = some false) (hk : listed.toList.count false ≤ 0) : False := by
  have hm : false ∈ listed.toList := List.mem_of_getElem? (by simpa using h)
  have := List.count_pos_iff.2 hm
  omega

theorem edge_mem {o : Oper} {e : Edge} (he : e ∈ o.after) (hb : Region.binds .any e = true) : e.on ∈ edgesOf o := by
  unfold edgesOf
  exact List.mem_map.2 ⟨e, List.mem_filter.2 ⟨by simpa using he, hb⟩, rfl⟩
theorem edge_of {o : Oper} {i : Nat} (h : i ∈ edgesOf o) : ∃ e, e ∈ o.after ∧ Region.binds .any e = true ∧ e.on = i := by
  unfold edgesOf at h
  obtain ⟨e, he, rfl⟩ := List.mem_map.1 h
  obtain ⟨h1, h2⟩ := List.mem_filter.1 he
  exact ⟨e, by simpa using h1, h2, rfl⟩
theorem edgesAt_of {i : Nat} {o : Oper} (h : ops[i]? = some o) : edgesAt ops.toList i = edgesOf o := by
  unfold edgesAt
  rw [show ops.toList[i]? = some o from by simpa using h]

namespace Drawn
variable (X : Drawn C R ops s0 st)
include X

theorem all_listed {listed : Array Bool} {q : Nat} (F : Far ops listed q) (hr : Region.ready .any ops listed = []) : ∀ i, i < ops.size → listed.getD i false = true := by
  intro i
  induction i using Nat.strongRecOn with
  | ind i ih =>
    intro hi
    cases hl : listed.getD i false with
    | true => rfl
    | false =>
      have hk : ops[i]? = some (ops[i]'hi) := Array.getElem?_eq_getElem hi
      have : i ∈ Region.ready .any ops listed := mem_ready.2 ⟨by
        rw [Array.getD_eq_getD_getElem?] at hl ⊢
        have hs : i < listed.size := by rw [F.size]; exact hi
        rw [Array.getElem?_eq_getElem hs] at hl ⊢
        exact hl, _, hk, fun e he hb => by
          have hm : e.on ∈ edgesAt ops.toList i := by rw [edgesAt_of hk]; exact edge_mem he hb
          have hlt := X.low i _ hm
          exact ih _ hlt (by omega)⟩
      rw [hr] at this
      simp at this

theorem looks_eq {listed : Array Bool} {q : Nat} (F : Far ops listed q) {i : Nat} {o : Oper} (hi : ops[i]? = some o) (hlt : i < ops.size) (hnot : listed.getD i false = false) (hed : ∀ e ∈ edgesAt ops.toList i, listed.getD e false = true)
    {t : Tmp} (ht : t ∈ looksOf ops.toList o) : mixf ops s0 (st ops.size) listed t = tmf (st i).tm t := by
  by_cases h : ∃ j, dstAt ops j = some t
  · obtain ⟨j, hj⟩ := h
    by_cases e : j = i
    · subst e
      rw [mixf_out (fun k hk => by rw [X.uniq hk hj]; exact hnot), X.before hj (Nat.le_refl _)]
    · have hj' := hj
      unfold dstAt at hj'
      obtain ⟨oj, hoj, hdj⟩ := Option.bind_eq_some_iff.1 hj'
      have hp := X.pair j i oj o hoj hi e
      unfold pairOk at hp
      rw [hdj, Bool.and_eq_true] at hp
      have h1 := hp.1
      simp only [Bool.and_eq_true] at h1
      have h2 := h1.2
      have hc : (looksOf ops.toList o).contains t = true := by simpa using ht
      rw [hc] at h2
      simp only [Bool.not_true, Bool.false_or, Bool.or_eq_true] at h2
      rcases h2 with h2 | h2
      · obtain ⟨hji, hP⟩ := preB_spec X.low h2
        have hD := hP _ F.closed hed
        rw [mixf_in (X.lt_of_dst hj) hj hD, X.after hj hji (by omega)]
      · obtain ⟨hij, hP⟩ := preB_spec X.low h2
        rw [X.before hj (by omega)]
        refine mixf_out fun k hk => ?_
        rw [X.uniq hk hj]
        cases hl : listed.getD j false with
        | false => rfl
        | true =>
          have := hP _ F.closed (F.closed j hl)
          exact absurd (hnot.symm.trans this) (by simp)
  · have hn : ∀ j, dstAt ops j ≠ some t := fun j hj => h ⟨j, hj⟩
    rw [X.never hn (by omega)]
    exact mixf_out fun j hj => absurd hj (hn j)

/-- Two effects: the one before the other. -/
theorem eff_order {i j : Nat} (hi : eff ops i) (hj : eff ops j) (hlt : i < j) : Pre ops.toList i j := by
  obtain ⟨oi, hoi, hei⟩ := hi
  obtain ⟨oj, hoj, hej⟩ := hj
  have hp := X.pair i j oi oj hoi hoj (by omega)
  unfold pairOk at hp
  rw [Bool.and_eq_true] at hp
  have h2 := hp.2
  rw [hei, hej] at h2
  simp only [Bool.false_or, Bool.or_eq_true] at h2
  rcases h2 with h2 | h2
  · exact preB_spec X.low h2
  · have := (preB_spec X.low h2).1
    omega

/-- The step at the memory that the region has come to. -/
theorem step_at {listed : Array Bool} {q : Nat} (F : Far ops listed q) {i : Nat} {o : Oper} (hi : ops[i]? = some o) (hlt : i < ops.size) (hnot : listed.getD i false = false) (hed : ∀ e ∈ edgesAt ops.toList i, listed.getD e false = true) :
    ∃ s1 q', evStep C R ops.toList { st i with hp := (st q).hp } o = some s1 ∧ (∀ t, tmf s1.tm t = tmf (st (i + 1)).tm t) ∧ s1.hp = (st q').hp ∧ Far ops (listed.setIfInBounds i true) q' := by
  have hsz : i < listed.size := by rw [F.size]; exact hlt
  have hcl : Closed ops.toList (fun j => (listed.setIfInBounds i true).getD j false = true) := by
    intro j hj e he
    simp only [getD_set hsz] at hj ⊢
    by_cases ee : e = i
    · rw [if_pos ee]
    · rw [if_neg ee]
      by_cases ej : j = i
      · subst ej; exact hed e he
      · rw [if_neg ej] at hj; exact F.closed j hj e he
  have hss : (listed.setIfInBounds i true).size = ops.size := by simp [F.size]
  cases ho : isObs o with
  | true =>
    have hne : ¬ eff ops i := fun ⟨o', ho', he'⟩ => by rw [hi] at ho'; cases ho'; rw [ho] at he'; cases he'
    have F' : Far ops (listed.setIfInBounds i true) q := ⟨hss, hcl, F.le, fun j hj => by
      have : j ≠ i := fun e => hne (e ▸ hj)
      rw [getD_set hsz, if_neg this]
      exact F.effs j hj⟩
    have same_case : (st i).hp = (st q).hp → ∃ s1 q', evStep C R ops.toList { st i with hp := (st q).hp } o = some s1 ∧ (∀ t, tmf s1.tm t = tmf (st (i + 1)).tm t) ∧ s1.hp = (st q').hp ∧ Far ops (listed.setIfInBounds i true) q' := fun he => by
      refine ⟨st (i + 1), q, ?_, fun _ => rfl, (X.hp_obs hi ho).trans he, F'⟩
      rw [← he]
      exact X.step i o hi
    have obs_case : obsOk C ops.toList o (st i) (st q).hp = true → ∃ s1 q', evStep C R ops.toList { st i with hp := (st q).hp } o = some s1 ∧ (∀ t, tmf s1.tm t = tmf (st (i + 1)).tm t) ∧ s1.hp = (st q').hp ∧ Far ops (listed.setIfInBounds i true) q' := fun hob => by
      have hstep := X.step i o hi
      unfold obsOk at hob
      unfold evStep at hstep ⊢
      have haw : aWanted ops.toList { st i with hp := (st q).hp } o = aWanted ops.toList (st i) o := rfl
      rw [haw]
      cases hw : aWanted ops.toList (st i) o with
      | none => rw [hw] at hstep; cases hstep
      | some b =>
        cases b with
        | false =>
          rw [hw] at hstep
          simp only [Option.some.injEq] at hstep
          refine ⟨_, q, rfl, fun t => ?_, by rw [put_hp], F'⟩
          rw [← hstep]
          exact congrFun (congrArg tmf (put_tm _ _ _ _)) t
        | true =>
          rw [hw] at hstep hob
          simp only at hstep hob
          split at hob
          · rename_i v h1 u h2 ha hb
            have hsame := same_eq v u hob
            subst hsame
            unfold evOp at hstep ⊢
            rw [ha] at hstep
            rw [hb]
            simp only [Option.some.injEq] at hstep
            have hh := (isObs_obs ho hb).1
            refine ⟨_, q, rfl, fun t => ?_, by rw [put_hp, hh], F'⟩
            rw [← hstep]
            have e1 := put_tm (st i) h1 o.dst v
            have e2 := put_tm (st i) h2 o.dst v
            exact congrFun (congrArg tmf (e2.trans e1.symm)) t
          · cases hob
    rcases Nat.lt_or_ge q i with hq | hq
    · rcases X.next_eff (Nat.le_of_lt hq) (by omega) with h | ⟨e, h1, h2, h3, h4⟩
      · exact same_case h.symm
      · obtain ⟨oe, hoe, hee⟩ := h3
        have hnl : listed.getD e false = false := by
          cases hl : listed.getD e false with
          | false => rfl
          | true => have := (F.effs e ⟨oe, hoe, hee⟩).1 hl; omega
        refine obs_case ?_
        have := X.dyn i e o oe hi hoe ho hee (by
          cases hp : preB (pres ops.toList) e i with
          | false => rfl
          | true =>
            have := (preB_spec X.low hp).2 _ F.closed hed
            exact absurd (hnl.symm.trans this) (by simp)) (by
          cases hp : preB (pres ops.toList) i e with
          | false => rfl
          | true => have := (preB_spec X.low hp).1; omega)
        rw [if_neg (by omega)] at this
        rw [h4]; exact this
    · rcases X.prev_eff hq F.le with h | ⟨e, h1, h2, h3, h4⟩
      · exact same_case h
      · obtain ⟨oe, hoe, hee⟩ := h3
        have hl : listed.getD e false = true := (F.effs e ⟨oe, hoe, hee⟩).2 h2
        have hei : e ≠ i := fun e' => by rw [e', hi] at hoe; cases hoe; rw [ho] at hee; cases hee
        refine obs_case ?_
        have := X.dyn i e o oe hi hoe ho hee (by
          cases hp : preB (pres ops.toList) e i with
          | false => rfl
          | true => have := (preB_spec X.low hp).1; omega) (by
          cases hp : preB (pres ops.toList) i e with
          | false => rfl
          | true =>
            have := (preB_spec X.low hp).2 _ F.closed (F.closed e hl)
            exact absurd (hnot.symm.trans this) (by simp))
        rw [if_pos (by omega)] at this
        rw [h4]; exact this
  | false =>
    have he : eff ops i := ⟨o, hi, ho⟩
    have below : ∀ j, eff ops j → j < i → listed.getD j false = true := fun j hj hji => (X.eff_order hj he hji).2 _ F.closed hed
    have above : ∀ j, eff ops j → i < j → listed.getD j false = false := fun j hj hij => by
      cases hl : listed.getD j false with
      | false => rfl
      | true =>
        have := (X.eff_order he hj hij).2 _ F.closed (F.closed j hl)
        exact absurd (hnot.symm.trans this) (by simp)
    have hnq : ¬ i < q := fun h => by have := (F.effs i he).2 h; rw [hnot] at this; cases this
    have hh : (st i).hp = (st q).hp := X.hp_between (by omega) (by omega) fun k h1 h2 hk => by
      have := (F.effs k hk).1 (below k hk h2); omega
    refine ⟨st (i + 1), i + 1, ?_, fun _ => rfl, rfl, hss, hcl, hlt, fun j hj => ?_⟩
    · rw [← hh]; exact X.step i o hi
    · rw [getD_set hsz]
      by_cases e : j = i
      · subst e; simp
      · rw [if_neg e]
        rcases Nat.lt_or_ge j i with h | h
        · exact ⟨fun _ => by omega, fun _ => below j hj h⟩
        · have h' : i < j := by omega
          rw [above j hj h']
          exact ⟨fun h => (by cases h), fun h => (by omega)⟩

theorem go (RC : CallOK C R B w0) (RY : YldOK C R B w0) (RE : ExtOK C) {Q : Exit → Act → World → Prop} : ∀ (fuel : Nat) (listed : Array Bool) (q : Nat) (c : Ctx) (act : Act) (w : World), Far ops listed q → listed.toList.count false ≤ fuel → GR C c →
    TR c (mixf ops s0 (st ops.size) listed) act.tmps s0.n → DR c s0.df act.defers → HR B w0 c (st q).hp w →
    (∀ c' act' w', Ctx.le c c' → SR B w0 c' (st ops.size) act' w' → Q .normal act' w') → wpAnyIn (fen ro) 0 C.P .any ops Q fuel listed act w := by
  intro fuel
  have done : ∀ (listed : Array Bool) (q : Nat) (c : Ctx) (act : Act) (w : World), Far ops listed q → TR c (mixf ops s0 (st ops.size) listed) act.tmps s0.n → DR c s0.df act.defers → HR B w0 c (st q).hp w →
      (∀ c' act' w', Ctx.le c c' → SR B w0 c' (st ops.size) act' w' → Q .normal act' w') → Region.ready .any ops listed = [] → Q .normal act w := by
    intro listed q c act w F T D H hQ hr
    have hall := X.all_listed F hr
    obtain ⟨hn, hdf⟩ := X.nd (Nat.le_refl ops.size)
    refine hQ c act w (Ctx.le_refl c) ⟨?_, ?_, by rw [hdf]; exact D⟩
    · rw [hn]
      have : mixf ops s0 (st ops.size) listed = tmf (st ops.size).tm := funext fun t => by
        by_cases h : ∃ j, dstAt ops j = some t
        · obtain ⟨j, hj⟩ := h
          exact mixf_in (X.lt_of_dst hj) hj (hall j (X.lt_of_dst hj))
        · have hnn : ∀ j, dstAt ops j ≠ some t := fun j hj => h ⟨j, hj⟩
          rw [X.never hnn (Nat.le_refl _)]
          exact mixf_out fun j hj => absurd hj (hnn j)
      rw [← this]; exact T
    · rw [X.hp_between F.le (Nat.le_refl _) fun k h1 h2 hk => by
        have := (F.effs k hk).1 (hall k h2); omega]
      exact H
  induction fuel with
  | zero =>
    intro listed q c act w F hcount G T D H hQ
    have hr : Region.ready .any ops listed = [] := by
      cases hr : Region.ready .any ops listed with
      | nil => rfl
      | cons i l =>
        have hm : i ∈ Region.ready .any ops listed := by rw [hr]; simp
        exact (count_zero (getD_of (mem_ready.1 hm).1).2.1 hcount).elim
    exact ⟨hr, done listed q c act w F T D H hQ hr⟩
  | succ fuel ih =>
    intro listed q c act w F hcount G T D H hQ
    refine ⟨done listed q c act w F T D H hQ, fun i hm => ?_⟩
    obtain ⟨h0, o, ho, hall⟩ := mem_ready.1 hm
    obtain ⟨hsz, hget, hnot⟩ := getD_of h0
    have hlt : i < ops.size := by rw [← F.size]; exact hsz
    have hed : ∀ e ∈ edgesAt ops.toList i, listed.getD e false = true := fun e he => by
      rw [edgesAt_of ho] at he
      obtain ⟨e', he', hb, rfl⟩ := edge_of he
      exact hall e' he' hb
    obtain ⟨s1, q', hstep, htm, hhp, F'⟩ := X.step_at F ho hlt hnot hed
    obtain ⟨hn, _⟩ := X.nd (Nat.le_of_lt hlt)
    refine evStep_sound (s := { st i with hp := (st q).hp }) RC RY RE G ho (fun t ht => ?_) H hstep fun c' w' u v hle hvr H' hs => ?_
    · show VR c (tmf (st i).tm t) _
      rw [← X.looks_eq F ho hlt hnot hed ht]
      exact T.getD t
    · refine ih _ q' c' _ w' F' (count_down hsz hget hcount) (G.mono hle) ?_ (by rw [put_defers]; exact D.mono hle) (hhp ▸ H') fun c2 act2 w2 hle2 S2 => hQ c2 act2 w2 (Ctx.le_trans hle hle2) S2
      refine TR.actput (T.mono hle) hvr fun t => ?_
      have hput : ∀ t, tmf s1.tm t = if o.dst = some t ∧ t < s0.n then v else tmf (st i).tm t := fun t => by
        have := congrFun (congrArg tmf (congrArg St.tm hs)) t
        rw [this, tmf_put]
        simp only [hn]
      have hda : ∀ t, o.dst = some t ↔ dstAt ops i = some t := fun t => by unfold dstAt; rw [ho]; rfl
      by_cases hd : o.dst = some t
      · have hd' := (hda t).1 hd
        rw [mixf_in hlt hd' (by rw [getD_set hsz, if_pos rfl]), ← X.after hd' (Nat.lt_succ_self i) (by omega), ← htm, hput]
        by_cases hl : t < s0.n
        · rw [if_pos ⟨hd, hl⟩, if_pos ⟨hd, hl⟩]
        · rw [if_neg (fun h => hl h.2), if_neg (fun h => hl h.2), X.before hd' (Nat.le_refl _)]
          exact (mixf_out fun k hk => by rw [X.uniq hk hd']; exact hnot).symm
      · rw [if_neg (fun h => hd h.1)]
        have hsame : ∀ k, dstAt ops k = some t → (listed.setIfInBounds i true).getD k false = listed.getD k false := fun k hk => by
          rw [getD_set hsz, if_neg]
          intro e
          rw [e] at hk
          exact hd ((hda t).2 hk)
        by_cases hx : ∃ k, dstAt ops k = some t ∧ listed.getD k false = true
        · obtain ⟨k, hk, hkl⟩ := hx
          rw [mixf_in (X.lt_of_dst hk) hk hkl, mixf_in (X.lt_of_dst hk) hk ((hsame k hk).trans hkl)]
        · have hf : ∀ k, dstAt ops k = some t → listed.getD k false = false := fun k hk => by
            cases hl : listed.getD k false with
            | false => rfl
            | true => exact absurd ⟨k, hk, hl⟩ hx
          rw [mixf_out hf, mixf_out fun k hk => (hsame k hk).trans (hf k hk)]
end Drawn

theorem draw_sound (hm : C.P.follows .mixedOrders = true) (RC : CallOK C R B w0) (RY : YldOK C R B w0) (RE : ExtOK C) {id : Nat} {Q : Exit → Act → World → Prop} {c : Ctx} {s s' : St} {act : Act} {w : World} (G : GR C c) (S : SR B w0 c s act w)
    (e : evDraw C R ops.toList s = some s') (hQ : ∀ c' act' w', Ctx.le c c' → SR B w0 c' s' act' w' → Q .normal act' w') : (Code.region id ops true).wpIn (fen ro) 0 C.P Q act w := by
  obtain ⟨st, X, hs'⟩ := evDraw_drawn e
  subst hs'
  have hno : ∀ i, (Array.replicate ops.size false).getD i false = false := fun i => by
    rw [Array.getD_eq_getD_getElem?, Array.getElem?_replicate]
    split <;> rfl
  refine wpIn_region_any hm (X.go RC RY RE ops.size (Array.replicate ops.size false) 0 c act _ ⟨by simp, fun j hj => ?_, Nat.zero_le _, fun i _ => ?_⟩ ?_ G ?_ S.df ?_ hQ)
  · simp only [hno] at hj; cases hj
  · rw [hno]; exact ⟨fun h => (by cases h), fun h => (by omega)⟩
  · rw [Array.toList_replicate, List.count_replicate]
    simp
  · have : mixf ops s (st ops.size) (Array.replicate ops.size false) = tmf s.tm := funext fun t => mixf_out fun i _ => hno i
    rw [this]; exact S.tm
  · rw [X.zero]; exact S.hp.drew
end
end Go.Ev
