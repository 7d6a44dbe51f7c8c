/-
  A region whose order is open, walked in the machine: rows may be laid ahead of their turn.
-/
import Derived.Test.YtjggeombkbianaaEvV
set_option linter.unusedSimpArgs false
set_option linter.unusedVariables false
set_option linter.unusedSectionVars false
namespace Go.Ev
open Go Go.RowKit

/-! Rows that lie in the world already, and are taken into the evaluator's memory later. -/
section
variable {B : Kp} {w0 w : World} {c : Ctx} {h : Hp}
theorem HR.into (H : HR B w0 c h w) (o : AObj) (L : Loc) (fams' : Tr (List Nat)) (hnr : ∀ i M, c i = some M → M.blk ≠ L.blk) (hLt : L.blk < w.heap.size) (hna : ¬ B.avoid L.blk)
    (hO : OR (c.ext h.next L) B w o L)
    (hf : ∀ f ms, fams'.get f = some ms → (h.fams.get f = some ms ∧ f ≠ h.next) ∨ (f = h.next ∧ ms = [h.next]))
    (hf' : ∀ f ms, h.fams.get f = some ms → fams'.get f = some ms)
    (hr : ∀ elem cells f, o = .row elem cells f true → f = h.next ∧ fams'.get h.next = some [h.next]) (hb0 : ∀ elem cells wr, o = .row elem cells h.next wr → L.base = 0) :
    HR B w0 (c.ext h.next L) { next := h.next + 1, objs := h.objs.set h.next o, fams := fams' } w := by
  have hle : Ctx.le c (c.ext h.next L) := Ctx.le_ext (H.fresh _ (Nat.le_refl _))
  have hget : ∀ i, ({ next := h.next + 1, objs := h.objs.set h.next o, fams := fams' } : Hp).get i = if i = h.next then some o else h.get i := fun i => Tr.get_set _ _ _ _
  have hold : ∀ i oi, h.get i = some oi → i ≠ h.next := fun i oi hi => by have := H.ids hi; omega
  refine ⟨H.below, H.hB, fun i hi => ?_, fun i oi hi => ?_, fun i M hM => ?_, fun i M hM => ?_, ?_, ?_, ?_, ?_, ?_, ?_⟩
  · simp only [Ctx.ext]
    rw [if_neg (by simp at hi; omega)]
    exact H.fresh i (by simp at hi; omega)
  · rw [hget] at hi
    split at hi
    · rename_i e; subst e; cases hi; exact ⟨L, Ctx.ext_same _ _ _, hO⟩
    · obtain ⟨M, hM, hor⟩ := H.obj i oi hi
      exact ⟨M, hle _ _ hM, hor.keep hle (.inr rfl)⟩
  · simp only [Ctx.ext] at hM
    split at hM
    · cases hM; exact hLt
    · exact H.lt i M hM
  · simp only [Ctx.ext] at hM
    split at hM
    · cases hM; exact hna
    · exact H.av i M hM
  · intro i j oi oj Li Lj hi hj hci hcj hij ho hl hb
    rw [hget] at hi hj
    by_cases ei : i = h.next
    · subst ei
      have ej : j ≠ h.next := fun e => hij e.symm
      rw [if_neg ej] at hj
      simp only [Ctx.ext, if_true] at hci
      simp only [Ctx.ext, if_neg ej] at hcj
      cases hci
      exact absurd hb.symm (hnr _ _ hcj)
    · rw [if_neg ei] at hi
      simp only [Ctx.ext, if_neg ei] at hci
      by_cases ej : j = h.next
      · subst ej
        simp only [Ctx.ext, if_true] at hcj
        cases hcj
        exact absurd hb (hnr _ _ hci)
      · rw [if_neg ej] at hj
        simp only [Ctx.ext, if_neg ej] at hcj
        exact H.apart i j oi oj Li Lj hi hj hci hcj hij ho hl hb
  · intro i elem cells f hi
    rw [hget] at hi
    split at hi
    · rename_i e; subst e
      cases hi
      obtain ⟨rfl, hg⟩ := hr _ _ _ rfl
      exact ⟨Nat.lt_succ_self _, _, hg, by simp⟩
    · obtain ⟨hlt, ms, hms, hin⟩ := H.fam i elem cells f hi
      exact ⟨by show f < h.next + 1; omega, ms, hf' _ _ hms, hin⟩
  · intro f ms hms
    rcases hf f ms hms with ⟨hms', _⟩ | ⟨rfl, _⟩
    · have := H.famlt _ _ hms'; show f < h.next + 1; omega
    · exact Nat.lt_succ_self _
  · intro f ms hms
    rcases hf f ms hms with ⟨hms', _⟩ | ⟨rfl, rfl⟩
    · refine (H.chain f ms hms').imp ?_
      intro i j hch oi oj Li Lj hi hj hl0 hl hci hcj hb
      rw [hget] at hi hj
      by_cases ei : i = h.next
      · subst ei
        simp only [Ctx.ext, if_true] at hci
        by_cases ej : j = h.next
        · subst ej
          simp only [Ctx.ext, if_true] at hcj
          cases hci; cases hcj
          rw [if_pos rfl] at hi hj
          cases hi; cases hj; exact Nat.le_refl _
        · simp only [Ctx.ext, if_neg ej] at hcj
          cases hci
          exact absurd hb.symm (hnr _ _ hcj)
      · rw [if_neg ei] at hi
        simp only [Ctx.ext, if_neg ei] at hci
        by_cases ej : j = h.next
        · subst ej
          simp only [Ctx.ext, if_true] at hcj
          cases hcj
          exact absurd hb (hnr _ _ hci)
        · rw [if_neg ej] at hj
          simp only [Ctx.ext, if_neg ej] at hcj
          exact hch oi oj Li Lj hi hj hl0 hl hci hcj hb
    · simp
  · intro f ms hms i hin
    rcases hf f ms hms with ⟨hms', _⟩ | ⟨rfl, rfl⟩
    · obtain ⟨M, hM⟩ := H.mem f ms hms' i hin
      exact ⟨M, hle _ _ hM⟩
    · simp at hin; subst hin; exact ⟨L, Ctx.ext_same _ _ _⟩
  · intro i e2 c2 w2 M hi hM
    rw [hget] at hi
    by_cases ei : i = h.next
    · subst ei
      rw [if_pos rfl] at hi; cases hi
      simp only [Ctx.ext, if_true] at hM; cases hM
      exact hb0 _ _ _ rfl
    · rw [if_neg ei] at hi
      simp only [Ctx.ext, if_neg ei] at hM
      exact H.base0 i e2 c2 w2 M hi hM


theorem HR.less (H : HR B w0 c h w) {B' : Kp} (hk : ∀ k, B'.keep k → B.keep k) (ha : ∀ k, B'.avoid k → B.avoid k) : HR B' w0 c h w := by
  refine ⟨H.below.mono hk, fun k h => H.hB k (hk k h), H.fresh, fun i o hi => ?_, H.lt, fun i L hL h => H.av i L hL (ha _ h), H.apart, H.fam, H.famlt, H.chain, H.mem, H.base0⟩
  obtain ⟨L, hL, ho⟩ := H.obj i o hi
  refine ⟨L, hL, ?_⟩
  cases o with
  | row elem cells fam wr =>
    obtain ⟨cs, fz, h1, h2, h3, h4, h5⟩ := ho
    exact ⟨cs, fz, h1, h2, h3, h4, fun hw => ⟨fun hh => (h5 hw).1 (hk _ hh), (h5 hw).2⟩⟩
  | map es clock =>
    obtain ⟨es', h1, h2, h3⟩ := ho
    exact ⟨es', h1, fun hh => h2 (hk _ hh), h3⟩
  | loop st pend tm n ps assign body dd =>
    obtain ⟨r, Ld, h1, h2, h3⟩ := ho
    exact ⟨r, Ld, h1, fun hh => h2 (hk _ hh), h3⟩
  | dfr => exact ⟨ho.1, fun hh => ho.2 (hk _ hh)⟩
  | dead => trivial
/-- Held against another world. -/
theorem HR.based (H : HR B w0 c h w) {w1 : World} (hb : Keep B.keep w1 w) : HR B w1 c h w :=
  ⟨hb, H.hB, H.fresh, H.obj, H.lt, H.av, H.apart, H.fam, H.famlt, H.chain, H.mem, H.base0⟩
theorem HR.absorb (H : HR B w0 c h w) {B' : Kp} (hk : ∀ k, B'.keep k → B.keep k) (ha : ∀ k, B'.avoid k → B.avoid k) (elem : TypeId) {cells : List AV} {vs : List Value} {b : Nat} (hb : w.heap[b]? = some (.cells ⟨vs⟩ elem (0, 0)))
    (hav : B.avoid b) (hnk : ¬ B'.keep b) (hc : VRs c cells vs) (h1 : ∀ v ∈ vs, v.oneCell' = true) : HR B' w0 (c.ext h.next ⟨b, 0, vs.length⟩) (h.row elem cells) w := by
  have hle : Ctx.le c (c.ext h.next ⟨b, 0, vs.length⟩) := Ctx.le_ext (H.fresh _ (Nat.le_refl _))
  have hlt : b < w.heap.size := by
    rcases Nat.lt_or_ge b w.heap.size with h | h
    · exact h
    · rw [Array.getElem?_eq_none h] at hb; cases hb
  refine (H.less hk ha).into (.row elem cells h.next true) ⟨b, 0, vs.length⟩ _ (fun i M hM e => H.av i M hM (by rw [e]; exact hav)) hlt (fun hh => hnk (B'.sub _ hh)) ?_ ?_ ?_ ?_ (fun _ _ _ _ => rfl)
  · refine ⟨⟨vs⟩, (0, 0), hb, by simp, by rw [hc.length]; exact Nat.le_refl _, fun i a ha => ?_, fun _ => ⟨hnk, fun i _ hh => by simp at hh⟩⟩
    obtain ⟨v, hv, hr⟩ := hc.get i a ha
    exact ⟨v, by simpa using hv, hr.mono hle, h1 v (List.mem_of_getElem? hv)⟩
  · intro f ms hms
    rw [Tr.get_set] at hms
    split at hms
    · rename_i e; subst e; cases hms; exact .inr ⟨rfl, rfl⟩
    · rename_i e; exact .inl ⟨hms, e⟩
  · intro f ms hms
    rw [Tr.get_set, if_neg (by have := (H.less hk ha).famlt _ _ hms; omega)]
    exact hms
  · intro el ce f e
    cases e
    exact ⟨rfl, by rw [Tr.get_set, if_pos rfl]⟩
/-- A new block that is kept and avoided from now on. -/
theorem HR.aside (H : HR B w0 c h w) (O : Obj) {B' : Kp} (hk : ∀ k, B'.keep k → B.keep k ∨ k = w.heap.size) (ha : ∀ k, B'.avoid k → B.avoid k ∨ k = w.heap.size) : HR B' (w.alloc O) c h (w.alloc O) := by
  refine ⟨Keep.refl _ _, fun k h => ?_, H.fresh, fun i o hi => ?_, fun i L hL => by have := H.lt i L hL; simp; omega, fun i L hL h => ?_, H.apart, H.fam, H.famlt, H.chain, H.mem, H.base0⟩
  · rcases hk k h with h | h
    · have := H.hB k h; simp; omega
    · simp; omega
  · obtain ⟨L, hL, ho⟩ := H.obj i o hi
    have hlt := H.lt i L hL
    have ho2 : OR c B (w.alloc O) o L := ho.keep (Ctx.le_refl c) (.inr (heap_alloc_old _ _ _ hlt))
    have hn : ∀ {p : Prop}, (B.keep L.blk → False) → B'.keep L.blk → p := fun hno hh => by
      rcases hk _ hh with h | h
      · exact (hno h).elim
      · omega
    refine ⟨L, hL, ?_⟩
    cases o with
    | row elem cells fam wr =>
      obtain ⟨cs, fz, h1, h2, h3, h4, h5⟩ := ho2
      exact ⟨cs, fz, h1, h2, h3, h4, fun hw => ⟨fun hh => hn (h5 hw).1 hh, (h5 hw).2⟩⟩
    | map es clock =>
      obtain ⟨es', h1, h2, h3⟩ := ho2
      exact ⟨es', h1, fun hh => hn h2 hh, h3⟩
    | loop st pend tm n ps assign body dd =>
      obtain ⟨r, Ld, h1, h2, h3⟩ := ho2
      exact ⟨r, Ld, h1, fun hh => hn h2 hh, h3⟩
    | dfr => exact ⟨ho2.1, fun hh => hn ho2.2 hh⟩
    | dead => trivial
  · have hlt := H.lt i L hL
    rcases ha _ h with h | h
    · exact H.av i L hL h
    · omega
/-- An empty memory. -/
theorem HR.bare (w : World) (c : Ctx) (n : Nat) (hf : ∀ i, n ≤ i → c i = none) (hl : ∀ i L, c i = some L → L.blk < w.heap.size) : HR ⟨fun _ => False, fun _ => False, fun _ h => h⟩ w c { next := n, objs := .lf, fams := .lf } w := by
  have hg : ∀ i o, ({ next := n, objs := .lf, fams := .lf } : Hp).get i = some o → False := fun i o h => by
    have : (Tr.lf : Tr AObj).get i = some o := h
    rw [Tr.get_lf] at this; cases this
  have hm : ∀ f ms, (Tr.lf : Tr (List Nat)).get f = some ms → False := fun f ms h => by rw [Tr.get_lf] at h; cases h
  exact ⟨Keep.refl _ _, fun _ h => h.elim, hf, fun i o h => (hg i o h).elim, hl, fun _ _ _ h => h, fun i j oi oj _ _ h => (hg i oi h).elim, fun i e cs f h => (hg i _ h).elim, fun f ms h => (hm f ms h).elim,
    fun f ms h => (hm f ms h).elim, fun f ms h => (hm f ms h).elim, fun i e cs wr L h => (hg i _ h).elim⟩
end

/-! Temporaries, each with a relation of its own. -/
structure TRm (V : Nat → AV → Value → Prop) (f : Nat → AV) (tmps : Array Value) (n : Nat) : Prop where
  size : tmps.size = n
  val : ∀ t, t < n → ∃ v, tmps[t]? = some v ∧ V t (f t) v
  out : ∀ t, n ≤ t → f t = .undef
theorem TRm.imp {V W : Nat → AV → Value → Prop} {f : Nat → AV} {tmps : Array Value} {n : Nat} (h : TRm V f tmps n) (hV : ∀ t v, V t (f t) v → W t (f t) v) : TRm W f tmps n :=
  ⟨h.size, fun t ht => let ⟨v, hv, hr⟩ := h.val t ht; ⟨v, hv, hV t v hr⟩, h.out⟩
theorem TRm.put {V : Nat → AV → Value → Prop} {f : Nat → AV} {tmps : Array Value} {n : Nat} (T : TRm V f tmps n) {d : Tmp} {v : AV} {u : Value} (h : V d v u) (hd : d < n) {g : Nat → AV} (hg : ∀ t, g t = if t = d then v else f t) : TRm V g (tmps.setIfInBounds d u) n := by
  refine ⟨by simp [T.size], fun t ht => ?_, fun t ht => by
    have hne : ¬ t = d := fun e => by subst e; exact absurd hd (Nat.not_lt.2 ht)
    rw [hg, if_neg hne]; exact T.out t ht⟩
  rw [hg]
  by_cases e : t = d
  · subst e
    rw [if_pos rfl]
    exact ⟨u, by rw [Array.getElem?_setIfInBounds_self_of_lt (by rw [T.size]; exact ht)], h⟩
  · rw [if_neg e, Array.getElem?_setIfInBounds_ne (fun h => e h.symm)]
    exact T.val t ht
theorem TRm.actput {V : Nat → AV → Value → Prop} {n : Nat} {f g : Nat → AV} {act : Act} (T : TRm V f act.tmps n) {dst : Option Tmp} {v : AV} {u : Value} (h : ∀ d, dst = some d → V d v u) (hg : ∀ t, g t = if dst = some t ∧ t < n then v else f t) : TRm V g (act.put dst u).tmps n := by
  cases dst with
  | none =>
    have : g = f := funext fun t => by rw [hg]; simp
    rw [this]; exact T
  | some d =>
    by_cases hd : d < n
    · refine T.put (h d rfl) hd fun t => ?_
      rw [hg]
      by_cases e : t = d
      · subst e; rw [if_pos ⟨rfl, hd⟩, if_pos rfl]
      · rw [if_neg (fun h => e (Option.some.inj h.1).symm), if_neg e]
    · have he : act.tmps.setIfInBounds d u = act.tmps := by
        apply Array.setIfInBounds_eq_of_size_le
        rw [T.size]; exact Nat.le_of_not_lt hd
      have : g = f := funext fun t => by
        rw [hg, if_neg]
        rintro ⟨e, hlt⟩
        cases e
        exact hd hlt
      rw [this]
      show TRm V f (act.tmps.setIfInBounds d u) n
      rw [he]; exact T

/-! What precedes what, both ways. -/
theorem presGo_keep : ∀ (rest : List Oper) (acc : List (List Nat)) (i : Nat), i < acc.length → (presGo rest acc).getD i [] = acc.getD i []
  | [], acc, i, _ => rfl
  | o :: rest, acc, i, h => by
    simp only [presGo]
    rw [presGo_keep rest _ i (by simp; omega)]
    simp [List.getD_eq_getElem?_getD, List.getElem?_append_left h]
theorem presGo_at (ops : List Oper) (hS : ∀ j, ∀ i ∈ edgesAt ops j, i < j) : ∀ (rest : List Oper) (acc : List (List Nat)), ops.drop acc.length = rest → ∀ j, acc.length ≤ j → j < ops.length →
    ∀ i, (i ∈ edgesAt ops j ∨ ∃ e ∈ edgesAt ops j, i ∈ (presGo rest acc).getD e []) → i ∈ (presGo rest acc).getD j []
  | [], acc, hd, j, h1, h2, i, _ => by
    have := congrArg List.length hd
    simp at this; omega
  | o :: rest, acc, hd, j, h1, h2, i, hi => by
    have ho : ops[acc.length]? = some o := by
      have : (ops.drop acc.length)[0]? = some o := by rw [hd]; rfl
      simpa using this
    have hE : edgesAt ops acc.length = edgesOf o := by unfold edgesAt; rw [ho]
    have hd' : ops.drop (acc ++ [edgesOf o ++ (edgesOf o).flatMap fun i => acc.getD i []]).length = rest := by
      have := congrArg List.tail hd
      simpa using this
    simp only [presGo] at hi ⊢
    by_cases hj : j = acc.length
    · subst hj
      rw [presGo_keep _ _ _ (by simp)]
      rw [List.getD_eq_getElem?_getD, List.getElem?_append_right (Nat.le_refl _)]
      simp only [Nat.sub_self, List.getElem?_cons_zero, Option.getD_some, List.mem_append, List.mem_flatMap]
      rcases hi with hi | ⟨e, he, hi⟩
      · exact .inl (hE ▸ hi)
      · have hlt := hS _ _ he
        rw [presGo_keep _ _ _ (by simp; omega)] at hi
        refine .inr ⟨e, hE ▸ he, ?_⟩
        rwa [List.getD_eq_getElem?_getD, List.getElem?_append_left hlt, ← List.getD_eq_getElem?_getD] at hi
    · exact presGo_at ops hS rest _ hd' j (by simp; omega) h2 i hi
theorem pre_closed {ops : List Oper} (hS : ∀ j, ∀ i ∈ edgesAt ops j, i < j) : ∀ j, j < ops.length → ∀ i, i ∈ (pres ops).getD j [] → ∀ e ∈ edgesAt ops i, e ∈ (pres ops).getD j [] := by
  have hat := presGo_at ops hS ops [] rfl
  intro j
  induction j using Nat.strongRecOn with
  | ind j ih =>
    intro hj i hi e he
    have hP : Pre ops i j := preB_spec hS (by unfold preB; simpa using hi)
    -- i is an edge of j, or lies ahead of one
    obtain ⟨hlt, hcl⟩ := hP
    have key : i ∈ edgesAt ops j ∨ ∃ e ∈ edgesAt ops j, i ∈ (pres ops).getD e [] := by
      refine hcl (fun i => i ∈ edgesAt ops j ∨ ∃ e ∈ edgesAt ops j, i ∈ (pres ops).getD e []) (fun a ha b hb => ?_) (fun a ha => .inl ha)
      rcases ha with ha | ⟨e', he', ha⟩
      · have := hS _ _ ha
        exact .inr ⟨a, ha, hat a (Nat.zero_le _) (by omega) b (.inl hb)⟩
      · have hlt' := hS _ _ he'
        exact .inr ⟨e', he', ih e' hlt' (by omega) a ha b hb⟩
    rcases key with h | ⟨e', he', h⟩
    · have := hS _ _ h
      exact hat j (Nat.zero_le _) hj e (.inr ⟨i, h, hat i (Nat.zero_le _) (by omega) e (.inl he)⟩)
    · have hlt' := hS _ _ he'
      exact hat j (Nat.zero_le _) hj e (.inr ⟨e', he', ih e' hlt' (by omega) i h e he⟩)
theorem preB_of {ops : List Oper} (hS : ∀ j, ∀ i ∈ edgesAt ops j, i < j) {i j : Nat} (h : Pre ops i j) : preB (pres ops) i j = true := by
  by_cases hj : j < ops.length
  · have hat := presGo_at ops hS ops [] rfl j (Nat.zero_le _) hj
    have := h.2 (fun i => i ∈ (pres ops).getD j []) (fun a ha b hb => pre_closed hS j hj a ha b hb) (fun a ha => hat a (.inl ha))
    unfold preB
    simpa using this
  · have hE : edgesAt ops j = [] := by unfold edgesAt; rw [List.getElem?_eq_none (by omega)]
    exact (h.2 (fun _ => False) (fun _ h => h.elim) (fun e he => by rw [hE] at he; simp at he)).elim
theorem Pre.trans {ops : List Oper} {i j k : Nat} (h : Pre ops i j) (g : Pre ops j k) : Pre ops i k := ⟨Nat.lt_trans h.1 g.1, fun D hD hk => h.2 D hD (hD j (g.2 D hD hk))⟩
/-- Depends on a row that floats, or is one. -/
def FD (ops : List Oper) (j : Nat) : Prop := ∃ k, Flt ops k ∧ (k = j ∨ Pre ops k j)
theorem FD.pre {ops : List Oper} {i j : Nat} (h : FD ops i) (g : Pre ops i j) : FD ops j := by
  obtain ⟨k, hk, rfl | hp⟩ := h
  · exact ⟨k, hk, .inr g⟩
  · exact ⟨k, hk, .inr (hp.trans g)⟩
end Go.Ev
