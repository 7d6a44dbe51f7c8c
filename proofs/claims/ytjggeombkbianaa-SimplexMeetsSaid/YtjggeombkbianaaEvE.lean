/-
  Stores, freezes, changed objects and appends: the machine's steps, and the evaluator's.
-/
import Derived.Test.YtjggeombkbianaaEvD
namespace Go.Ev
open Go Go.RowKit

section
variable {P : Program} {B : Kp} {w0 w : World} {c : Ctx} {h : Hp}

theorem add_spot (b o n : Nat) : (⟨b, o, none⟩ : Addr).add n = ⟨b, o + n, none⟩ := by unfold Addr.add; split <;> simp_all

/-- Cells stored into a row none of whose cells is frozen. -/
theorem run_storeCells_fz (P : Program) (g o : Nat) (t : TypeId) (fz : Nat × Nat) : ∀ (vs : List Value) (i : Nat) (cur : Array Value) (w : World), w.heap[g]? = some (.cells cur t fz) → o + i + vs.length ≤ cur.size →
    (∀ k, k < cur.size → ¬ (fz.1 ≤ k ∧ k < fz.2)) → (∀ v ∈ vs, v.oneCell' = true) →
    (storeCells ⟨g, o, none⟩ vs i).run P w = .ok () (w.setRow g (seg cur (o + i) vs))
  | [], i, cur, w, hg, _, _, _ => by
    have : seg cur (o + i) [] = cur := by simp [seg]
    rw [this, setRow_self w g cur t fz hg]
    rfl
  | v :: rest, i, cur, w, hg, hl, hf, h1 => by
    have hi : o + i < cur.size := by simp at hl; omega
    have hcell : w.cell? ⟨g, o + i, none⟩ = some cur[o + i] := by simp [World.cell?, hg, hi]
    have hfro : w.frozen? ⟨g, o + i, none⟩ = false := by
      have := hf (o + i) hi
      simp only [World.frozen?, hg]
      simpa using this
    have hst : (store ((⟨g, o, none⟩ : Addr).add i) v).run P w = .ok () (w.setRow g (cur.setIfInBounds (o + i) v)) := by
      rw [add_spot, run_store P w _ v _ (h1 v (by simp)), hcell]
      simp [hfro, setCell_eq_setRow w g (o + i) cur t fz v hg]
    have ih := run_storeCells_fz P g o t fz rest (i + 1) (cur.setIfInBounds (o + i) v) (w.setRow g (cur.setIfInBounds (o + i) v)) (setRow_heap w g cur _ t _ hg) (by simp at hl ⊢; omega) (by simpa using hf) (fun x hx => h1 x (by simp [hx]))
    simp only [storeCells, Sem.run_bind, hst, Result.andThen_ok, ih, setRow_setRow]
    congr 2
    have e := list_seg_step cur.toList (o + i) v rest (by simp at hl ⊢; omega)
    simp only [seg]
    congr 1
    simpa [Array.toList_setIfInBounds, Nat.add_assoc] using e

theorem aWrite_some {r off : Nat} {new : List AV} {h' : Hp} (e : aWrite h r off new = some h') :
    ∃ elem cells fam ms, h.get r = some (.row elem cells fam true) ∧ off + new.length ≤ cells.length ∧ h.fams.get fam = some ms ∧
      h' = { (h.kill r ms) with objs := (h.kill r ms).objs.set r (.row elem (patch cells off new) fam true), fams := h.fams.set fam [r] } := by
  unfold aWrite at e
  split at e
  · rename_i elem cells fam hr
    split at e
    · rename_i hl
      split at e
      · rename_i ms hms
        cases e
        exact ⟨elem, cells, fam, ms, hr, hl, hms, rfl⟩
      · cases e
    · cases e
  · cases e

/-- THE STORE of some cells. -/
theorem HR.write (H : HR B w0 c h w) {r off : Nat} {new : List AV} {h' : Hp} (e : aWrite h r off new = some h') {news : List Value} (hn : VRs c new news)
    (h1 : ∀ v ∈ news, v.oneCell' = true) {L : Loc} (hL : c r = some L) :
    ∃ w', (storeCells ⟨L.blk, L.base + off, none⟩ news 0).run P w = .ok () w' ∧ HR B w0 c h' w' := by
  obtain ⟨elem, cells, fam, ms, hr, hl, hms, rfl⟩ := aWrite_some e
  obtain ⟨L', hL', cs, fz, hb, hsz, hlen, hc, hw⟩ := H.obj _ _ hr
  rw [hL] at hL'; cases hL'
  obtain ⟨hB, hfz⟩ := hw rfl
  have hnl := hn.length
  have hfit : L.base + off + news.length ≤ cs.size := by omega
  have hrun := run_storeCells_fz P L.blk (L.base + off) elem fz news 0 cs w hb (by omega) hfz h1
  refine ⟨_, hrun, H.rowPut hr hms hL (patch_length (by omega)) (below_setRow H.below hB _) (by simp) (fun k hk => heap_setRow_other _ _ _ _ hk) ?_⟩
  refine ⟨seg cs (L.base + off + 0) news, fz, heap_setRow_same hb, by rw [seg_size (by omega)]; exact hsz, by rw [patch_length (by omega)]; exact hlen, fun i a ha => ?_, fun _ => ⟨hB, fun k hk => hfz k (by rwa [seg_size (by omega)] at hk)⟩⟩
  by_cases hin : off ≤ i ∧ i < off + new.length
  · obtain ⟨d, rfl⟩ : ∃ d, i = off + d := ⟨i - off, by omega⟩
    rw [patch_in (by omega) d (by omega)] at ha
    obtain ⟨v, hv, hrv⟩ := hn.get d a ha
    refine ⟨v, ?_, hrv, h1 v (List.mem_of_getElem? hv)⟩
    rw [show L.base + (off + d) = L.base + off + 0 + d from by omega, seg_in (by omega) d (by omega)]
    exact hv
  · rw [patch_out (by omega) i (by omega)] at ha
    obtain ⟨v, hv, hrv, ho⟩ := hc i a ha
    refine ⟨v, ?_, hrv, ho⟩
    rw [seg_out (by omega) _ (by omega)]
    exact hv

/-- A changed object that is no row. -/
theorem HR.putObj (H : HR B w0 c h w) {r : Nat} {o o' : AObj} {L : Loc} (hr : h.get r = some o) (hL : c r = some L) (hn : ∀ e cs f b, o ≠ .row e cs f b) (hn' : ∀ e cs f b, o' ≠ .row e cs f b)
    (hB : ¬ B.keep L.blk) (hown : o.owned = true) {O' : Obj} (hO : OR c B (w.putObj L.blk O') o' L) : HR B w0 c (h.put r o') (w.putObj L.blk O') := by
  have hget : ∀ i, (h.put r o').get i = if i = r then some o' else h.get i := fun i => Tr.get_set _ _ _ _
  have lenr : ∀ x : AObj, (∀ e cs f b, x ≠ .row e cs f b) → ∀ y, ¬ x.kin y ∧ ¬ AObj.kin y x := fun x hx y => by
    cases x with
    | row e cs f b => exact absurd rfl (hx _ _ _ _)
    | _ => cases y with
      | row e cs f b => cases b <;> exact ⟨id, id⟩
      | _ => exact ⟨id, id⟩
  have alone : ∀ j oj Lj, h.get j = some oj → c j = some Lj → j ≠ r → oj.live = true → L.blk ≠ Lj.blk := fun j oj Lj hj hcj hne hl e =>
    (lenr o hn oj).1 (H.apart r j o oj L Lj hr hj hL hcj (Ne.symm hne) hown hl e)
  refine ⟨H.below.trans ⟨rfl, rfl, rfl, by simp, fun k hk => World.putObj_heap_other (fun e => hB (e ▸ hk))⟩, by simpa using H.hB, H.fresh, fun i oi hi => ?_, fun i M hM => by simpa using H.lt i M hM, H.av, ?_, ?_, H.famlt, ?_, H.mem, ?_⟩
  · rw [hget] at hi
    split at hi
    · rename_i e; subst e; cases hi; exact ⟨L, hL, hO⟩
    · rename_i hne
      obtain ⟨M, hM, hor⟩ := H.obj i oi hi
      refine ⟨M, hM, hor.keep (Ctx.le_refl _) ?_⟩
      cases hl : oi.live with
      | false => left; cases oi <;> simp_all [AObj.live]
      | true => right; exact World.putObj_heap_other (Ne.symm (alone i oi M hi hM hne hl))
  · intro i j oi oj Li Lj hi hj hci hcj hij ho hl hbk
    rw [hget] at hi hj
    by_cases ei : i = r
    · subst ei
      rw [if_neg (Ne.symm hij)] at hj
      rw [hL] at hci; cases hci
      exact absurd hbk (alone j oj Lj hj hcj (Ne.symm hij) hl)
    · rw [if_neg ei] at hi
      by_cases ej : j = r
      · subst ej
        rw [hL] at hcj; cases hcj
        exact absurd hbk.symm (alone i oi Li hi hci ei (by cases oi <;> simp_all [AObj.live, AObj.owned]))
      · rw [if_neg ej] at hj
        exact H.apart i j oi oj Li Lj hi hj hci hcj hij ho hl hbk
  · intro i e2 c2 f2 hi
    rw [hget] at hi
    split at hi
    · cases hi; exact absurd rfl (hn' _ _ _ _)
    · exact H.fam i e2 c2 f2 hi
  · intro f ms hms
    refine (H.chain f ms hms).imp ?_
    intro i j hch oi oj Li Lj hi hj hl0 hl hci hcj hbk
    rw [hget] at hi hj
    by_cases ei : i = r
    · subst ei
      by_cases ej : j = i
      · subst ej
        rw [hci] at hcj; cases hcj
        rw [if_pos rfl] at hi hj; cases hi; cases hj; exact Nat.le_refl _
      · rw [if_neg ej] at hj
        rw [hL] at hci; cases hci
        exact absurd hbk (alone j oj Lj hj hcj ej hl)
    · rw [if_neg ei] at hi
      by_cases ej : j = r
      · subst ej
        rw [hL] at hcj; cases hcj
        exact absurd hbk.symm (alone i oi Li hi hci ei hl0)
      · rw [if_neg ej] at hj
        exact hch oi oj Li Lj hi hj hl0 hl hci hcj hbk
  · intro i e2 c2 w2 M hi hM
    rw [hget] at hi
    split at hi
    · cases hi; exact absurd rfl (hn' _ _ _ _)
    · exact H.base0 i e2 c2 w2 M hi hM

/-- A row that lies where an elder row lies, behind what that one holds: what an append that fits leaves. -/
theorem HR.extend (H : HR B w0 c h w) {r fam off : Nat} {elem : TypeId} {cells : List AV} {ms : List Nat} {L : Loc}
    (hr : h.get r = some (.row elem cells fam true)) (hms : h.fams.get fam = some (r :: ms)) (hL : c r = some L) (hoff : off ≤ cells.length)
    {new : List AV} {news : List Value} (hn : VRs c new news) (h1 : ∀ v ∈ news, v.oneCell' = true) (hfit : cells.length + new.length ≤ L.lim) :
    ∃ w', (storeCells ⟨L.blk, L.base + cells.length, none⟩ news 0).run P w = .ok () w' ∧
      HR B w0 (c.ext h.next ⟨L.blk, L.base + off, L.lim - off⟩) { next := h.next + 1, objs := h.objs.set h.next (.row elem (cells.drop off ++ new) fam true), fams := h.fams.set fam (h.next :: r :: ms) } w' := by
  obtain ⟨L', hL', cs, fz, hb, hsz, hlen, hc, hw⟩ := H.obj _ _ hr
  rw [hL] at hL'; cases hL'
  obtain ⟨hB, hfz⟩ := hw rfl
  have hnl := hn.length
  have hfitc : L.base + cells.length + news.length ≤ cs.size := by omega
  have hrun := run_storeCells_fz P L.blk (L.base + cells.length) elem fz news 0 cs w hb (by omega) hfz h1
  have hle : Ctx.le c (c.ext h.next ⟨L.blk, L.base + off, L.lim - off⟩) := Ctx.le_ext (H.fresh _ (Nat.le_refl _))
  have hget : ∀ i, ({ next := h.next + 1, objs := h.objs.set h.next (.row elem (cells.drop off ++ new) fam true), fams := h.fams.set fam (h.next :: r :: ms) } : Hp).get i = if i = h.next then some (.row elem (cells.drop off ++ new) fam true) else h.get i := fun i => Tr.get_set _ _ _ _
  have hfam := (H.fam r _ _ _ hr).1
  have hother : ∀ k, k ≠ L.blk → (w.setRow L.blk (seg cs (L.base + cells.length + 0) news)).heap[k]? = w.heap[k]? := fun k hk => heap_setRow_other _ _ _ _ hk
  have hchain := List.pairwise_cons.1 (H.chain fam _ hms)
  -- an elder object that lies in that block is of that family, and reaches no farther
  have elder : ∀ i oi Li, h.get i = some oi → c i = some Li → oi.live = true → Li.blk = L.blk → ∃ e2 c2, oi = .row e2 c2 fam true ∧ Li.base + c2.length ≤ L.base + cells.length := fun i oi Li hi hci hl hbk => by
    by_cases hir : i = r
    · subst hir; rw [hr] at hi; cases hi; rw [hL] at hci; cases hci; exact ⟨_, _, rfl, Nat.le_refl _⟩
    · have hk := H.apart r i _ oi L Li hr hi hL hci (Ne.symm hir) rfl hl hbk.symm
      cases oi with
      | row e2 c2 f2 w2 =>
        cases w2 with
        | true =>
          simp only [AObj.kin] at hk
          subst hk
          obtain ⟨_, ms', hms', hin⟩ := H.fam i _ _ _ hi
          rw [hms] at hms'; cases hms'
          simp only [List.mem_cons, hir, false_or] at hin
          exact ⟨e2, c2, rfl, by simpa [AObj.len] using hchain.1 i hin _ _ L Li hr hi rfl hl hL hci hbk.symm⟩
        | false => exact hk.elim
      | _ => exact hk.elim
  refine ⟨_, hrun, ⟨below_setRow H.below hB _, by simpa using H.hB, fun i hi => ?_, fun i oi hi => ?_, fun i M hM => ?_, fun i M hM => ?_, ?_, ?_, ?_, ?_, ?_, ?_⟩⟩
  · simp only [Ctx.ext]
    rw [if_neg (by simp at hi; omega)]
    exact H.fresh i (by simp at hi; omega)
  · rw [hget] at hi
    split at hi
    · rename_i e; subst e; cases hi
      refine ⟨_, Ctx.ext_same _ _ _, seg cs (L.base + cells.length + 0) news, fz, heap_setRow_same hb, by rw [seg_size (by omega)]; show cs.size = L.base + off + (L.lim - off); omega, by simp; omega, fun i a ha => ?_, fun _ => ⟨hB, fun k hk => hfz k (by rwa [seg_size (by omega)] at hk)⟩⟩
      by_cases hin : i < cells.length - off
      · rw [List.getElem?_append_left (by simpa using hin), List.getElem?_drop] at ha
        obtain ⟨v, hv, hrv, ho⟩ := hc _ a ha
        refine ⟨v, ?_, hrv.mono hle, ho⟩
        show (seg cs _ news)[L.base + off + i]? = _
        rw [seg_out (by omega) _ (.inl (by omega)), show L.base + off + i = L.base + (off + i) from by omega]
        exact hv
      · rw [List.getElem?_append_right (by simp; omega)] at ha
        simp only [List.length_drop] at ha
        obtain ⟨v, hv, hrv⟩ := hn.get _ a ha
        refine ⟨v, ?_, hrv.mono hle, h1 v (List.mem_of_getElem? hv)⟩
        have hlt : i - (cells.length - off) < news.length := by
          have := (List.getElem?_eq_some_iff.1 hv).1; exact this
        show (seg cs _ news)[L.base + off + i]? = _
        rw [show L.base + off + i = L.base + cells.length + 0 + (i - (cells.length - off)) from by omega, seg_in (by omega) _ hlt]
        exact hv
    · obtain ⟨M, hM, hor⟩ := H.obj i oi hi
      refine ⟨M, hle _ _ hM, ?_⟩
      cases hl : oi.live with
      | false => exact hor.keep hle (.inl (by cases oi <;> simp_all [AObj.live]))
      | true =>
        by_cases hbk : M.blk = L.blk
        · obtain ⟨e2, c2, rfl, hreach⟩ := elder i oi M hi hM hl hbk
          obtain ⟨cs2, fz2, hb2, hsz2, hlen2, hc2, hw2⟩ := hor
          rw [hbk, hb] at hb2
          cases hb2
          refine ⟨seg cs (L.base + cells.length + 0) news, fz, by rw [hbk]; exact heap_setRow_same hb, by rw [seg_size (by omega)]; exact hsz2, hlen2, fun k a ha => ?_, fun _ => ⟨by rw [hbk]; exact hB, fun k hk => hfz k (by rwa [seg_size (by omega)] at hk)⟩⟩
          obtain ⟨v, hv, hrv, ho⟩ := hc2 k a ha
          have hk : k < c2.length := (List.getElem?_eq_some_iff.1 ha).1
          exact ⟨v, by rw [seg_out (by omega) _ (.inl (by omega))]; exact hv, hrv.mono hle, ho⟩
        · exact hor.keep hle (.inr (hother _ hbk))
  · simp only [Ctx.ext] at hM
    split at hM
    · cases hM; simpa using H.lt _ _ hL
    · simpa using H.lt i M hM
  · simp only [Ctx.ext] at hM
    split at hM
    · cases hM; have := H.av _ _ hL; exact this
    · exact H.av i M hM
  · intro i j oi oj Li Lj hi hj hci hcj hij ho hl hbk
    rw [hget] at hi hj
    by_cases ei : i = h.next
    · subst ei
      have ej : j ≠ h.next := fun e => hij e.symm
      rw [if_pos rfl] at hi; cases hi
      rw [if_neg ej] at hj
      simp only [Ctx.ext, if_true] at hci
      simp only [Ctx.ext, if_neg ej] at hcj
      cases hci
      obtain ⟨e2, c2, rfl, _⟩ := elder j oj Lj hj hcj hl hbk.symm
      rfl
    · rw [if_neg ei] at hi
      simp only [Ctx.ext, if_neg ei] at hci
      by_cases ej : j = h.next
      · subst ej
        rw [if_pos rfl] at hj; cases hj
        simp only [Ctx.ext, if_true] at hcj
        cases hcj
        obtain ⟨e2, c2, rfl, _⟩ := elder i oi Li hi hci (by cases oi <;> simp_all [AObj.live, AObj.owned]) hbk
        rfl
      · rw [if_neg ej] at hj
        simp only [Ctx.ext, if_neg ej] at hcj
        exact H.apart i j oi oj Li Lj hi hj hci hcj hij ho hl hbk
  · intro i e2 c2 f hi
    rw [hget] at hi
    split at hi
    · rename_i e; subst e; cases hi
      exact ⟨by show fam < h.next + 1; omega, _, by rw [Tr.get_set, if_pos rfl], by simp⟩
    · obtain ⟨hlt, ms', hms', hin⟩ := H.fam i e2 c2 f hi
      refine ⟨by show f < h.next + 1; omega, ?_⟩
      rw [Tr.get_set]
      by_cases hf : f = fam
      · subst hf; rw [hms] at hms'; cases hms'
        exact ⟨_, if_pos rfl, List.mem_cons_of_mem _ hin⟩
      · exact ⟨ms', by rw [if_neg hf]; exact hms', hin⟩
  · intro f ms' hms'
    rw [Tr.get_set] at hms'
    split at hms'
    · rename_i e; subst e; show f < h.next + 1; omega
    · have := H.famlt _ _ hms'; show f < h.next + 1; omega
  · have step : ∀ i j, Chain c h i j → Chain (c.ext h.next ⟨L.blk, L.base + off, L.lim - off⟩) { next := h.next + 1, objs := h.objs.set h.next (.row elem (cells.drop off ++ new) fam true), fams := h.fams.set fam (h.next :: r :: ms) } i j ∨ i = h.next ∨ j = h.next := fun i j hch => by
      by_cases ei : i = h.next
      · exact .inr (.inl ei)
      · by_cases ej : j = h.next
        · exact .inr (.inr ej)
        · left
          intro oi oj Li Lj hi hj hl0 hl hci hcj hbk
          rw [hget, if_neg ei] at hi
          rw [hget, if_neg ej] at hj
          simp only [Ctx.ext, if_neg ei] at hci
          simp only [Ctx.ext, if_neg ej] at hcj
          exact hch oi oj Li Lj hi hj hl0 hl hci hcj hbk
    intro f ms' hms'
    rw [Tr.get_set] at hms'
    have notnext : ∀ f ms, h.fams.get f = some ms → ∀ i, i ∈ ms → i ≠ h.next := fun f ms hm i hin e => by
      obtain ⟨M, hM⟩ := H.mem f ms hm i hin
      rw [e, H.fresh _ (Nat.le_refl _)] at hM; cases hM
    split at hms'
    · rename_i e; subst e; cases hms'
      refine List.pairwise_cons.2 ⟨fun j hj oi oj Li Lj hi hj' hl0 hl hci hcj hbk => ?_, ?_⟩
      · have ej := notnext _ _ hms j hj
        rw [hget, if_pos rfl] at hi; cases hi
        rw [hget, if_neg ej] at hj'
        simp only [Ctx.ext, if_true] at hci; cases hci
        simp only [Ctx.ext, if_neg ej] at hcj
        obtain ⟨e2, c2, rfl, hreach⟩ := elder j oj Lj hj' hcj hl hbk.symm
        show Lj.base + c2.length ≤ L.base + off + (cells.drop off ++ new).length
        simp; omega
      · refine List.Pairwise.imp_of_mem ?_ (H.chain f _ hms)
        intro i j hi hj hch
        rcases step i j hch with hs | e | e
        · exact hs
        · exact absurd e (notnext _ _ hms i hi)
        · exact absurd e (notnext _ _ hms j hj)
    · refine List.Pairwise.imp_of_mem ?_ (H.chain f ms' hms')
      intro i j hi hj hch
      rcases step i j hch with hs | e | e
      · exact hs
      · exact absurd e (notnext _ _ hms' i hi)
      · exact absurd e (notnext _ _ hms' j hj)
  · intro f ms' hms' i hin
    rw [Tr.get_set] at hms'
    split at hms'
    · cases hms'
      simp only [List.mem_cons] at hin
      rcases hin with rfl | hin
      · exact ⟨_, Ctx.ext_same _ _ _⟩
      · obtain ⟨M, hM⟩ := H.mem fam _ hms i (by simpa using hin)
        exact ⟨M, hle _ _ hM⟩
    · obtain ⟨M, hM⟩ := H.mem f ms' hms' i hin
      exact ⟨M, hle _ _ hM⟩
  · intro i e2 c2 w2 M hi hM
    rw [hget] at hi
    by_cases ei : i = h.next
    · subst ei
      rw [if_pos rfl] at hi; cases hi
      exact absurd hfam (Nat.lt_irrefl _)
    · rw [if_neg ei] at hi
      simp only [Ctx.ext, if_neg ei] at hM
      exact H.base0 i e2 c2 w2 M hi hM
end
end Go.Ev
