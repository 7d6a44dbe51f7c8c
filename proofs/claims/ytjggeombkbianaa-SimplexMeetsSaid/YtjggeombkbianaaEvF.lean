/-
  The evaluator's operations on values, and the machine's: the same comes of them.
-/
import Derived.Test.YtjggeombkbianaaEvE
namespace Go.Ev
open Go Go.RowKit

mutual
theorem ofV_VR (c : Ctx) : ∀ (v : Value) (a : AV), ofV v = some a → VR c a v
  | .bool b, a, h => by simp only [ofV, Option.some.injEq] at h; subst h; exact .bool b
  | .int k n, a, h => by simp only [ofV, Option.some.injEq] at h; subst h; exact .int k n
  | .string s, a, h => by simp only [ofV, Option.some.injEq] at h; subst h; exact .str s.data.toList
  | .pointer none, a, h => by simp only [ofV, Option.some.injEq] at h; subst h; exact .nilp
  | .slice none 0 0, a, h => by simp only [ofV, Option.some.injEq] at h; subst h; exact .nils
  | .map none, a, h => by simp only [ofV, Option.some.injEq] at h; subst h; exact .nilm
  | .nilFunc, a, h => by simp only [ofV, Option.some.injEq] at h; subst h; exact .nilf
  | .nilIface, a, h => by simp only [ofV, Option.some.injEq] at h; subst h; exact .nili
  | .agg ⟨cs⟩, a, h => by
    simp only [ofV, Option.map_eq_some_iff] at h
    obtain ⟨as, h1, rfl⟩ := h
    exact .agg (ofVs_VRs c cs as h1)
  | .tuple ⟨cs⟩, a, h => by
    simp only [ofV, Option.map_eq_some_iff] at h
    obtain ⟨as, h1, rfl⟩ := h
    exact .tup (ofVs_VRs c cs as h1)
  | .pointer (some _), a, h => by simp [ofV] at h
  | .slice (some _) _ _, a, h => by simp [ofV] at h
  | .slice none (_ + 1) _, a, h => by simp [ofV] at h
  | .slice none 0 (_ + 1), a, h => by simp [ofV] at h
  | .map (some _), a, h => by simp [ofV] at h
  | .float _ _, a, h => by simp [ofV] at h
  | .complex _ _ _, a, h => by simp [ofV] at h
  | .chan _, a, h => by simp [ofV] at h
  | .func _ _ _, a, h => by simp [ofV] at h
  | .iface _ _, a, h => by simp [ofV] at h
theorem ofVs_VRs (c : Ctx) : ∀ (vs : List Value) (as : List AV), ofVs vs = some as → VRs c as vs
  | [], as, h => by simp only [ofVs, Option.some.injEq] at h; subst h; exact .nil
  | v :: vs, as, h => by
    simp only [ofVs] at h
    split at h
    · rename_i a as' h1 h2
      cases h
      exact .cons (ofV_VR c v a h1) (ofVs_VRs c vs as' h2)
    · cases h
end

theorem runPure_run {P : Program} {α : Type} : ∀ {e : Sem α} {a : α}, runPure P e = some a → ∀ w, e.run P w = .ok a w
  | .pure _, _, h, w => by simp only [runPure, Option.some.injEq] at h; subst h; rfl
  | .program k, _, h, w => by simp only [runPure] at h; simp only [Sem.run]; exact runPure_run h w
  | .mark _ k, _, h, w => by simp only [runPure] at h; simp only [Sem.run]; exact runPure_run h w
  | .load _ _ _, _, h, _ => by simp [runPure] at h
  | .store _ _ _ _, _, h, _ => by simp [runPure] at h
  | .new _ _, _, h, _ => by simp [runPure] at h
  | .shape _ _, _, h, _ => by simp [runPure] at h
  | .freeze _ _ _, _, h, _ => by simp [runPure] at h
  | .frozen _ _, _, h, _ => by simp [runPure] at h
  | .getObj _ _, _, h, _ => by simp [runPure] at h
  | .setObj _ _ _, _, h, _ => by simp [runPure] at h
  | .choose _ _, _, h, _ => by simp [runPure] at h
  | .sys _ _, _, h, _ => by simp [runPure] at h
  | .halt _, _, h, _ => by simp [runPure] at h

section
variable {P : Program} {B : Kp} {w0 w : World} {c : Ctx} {h : Hp}

theorem sizeB_run {t : TypeId} {n : Nat} (e : sizeB P t = some n) (w : World) : (sizeOf t).run P w = .ok n w := by
  unfold sizeB at e
  cases hi : P.info? t with
  | none => simp [hi] at e
  | some i => simp [hi] at e; simp [sizeOf, typeInfo, hi, e]
theorem aggO_run {t : TypeId} {b : Bool} (e : aggO P t = some b) (w : World) : (isAgg t).run P w = .ok b w := by
  unfold aggO at e
  split at e <;> first
    | (rename_i f hu; cases e; simp [isAgg, run_underlying hu])
    | (rename_i k f hu; cases e; simp [isAgg, run_underlying hu])
    | (rename_i d hn1 hn2 hu; cases e; unfold isAgg; rw [Sem.run_bind, run_underlying hu]; simp only [Result.andThen_ok]; cases d <;> first | rfl | (exact absurd rfl (hn1 _)) | (exact absurd rfl (hn2 _ _)))
    | cases e
theorem zeroB_run {t : TypeId} {a : AV} (e : zeroB P t = some a) (w : World) : ∃ v, (zeroValue t).run P w = .ok v w ∧ ofV v = some a := by
  unfold zeroB at e
  split at e
  · rename_i i hi
    split at e
    · rename_i z hz
      exact ⟨z, by simp [zeroValue, typeInfo, hi, hz], e⟩
    · cases e
  · cases e

/-- The cells that a row holds, as they are read. -/
theorem HR.cells (H : HR B w0 c h w) {r : Nat} {elem : TypeId} {cells : List AV} {fam : Nat} {wr : Bool} {L : Loc} (hr : h.get r = some (.row elem cells fam wr)) (hL : c r = some L)
    (off n : Nat) (hn : off + n ≤ cells.length) : ∃ vs : List Value, VRs c ((cells.drop off).take n) vs ∧ (∀ v ∈ vs, v.oneCell' = true) ∧ ∀ j v, vs[j]? = some v → w.cell? ((⟨L.blk, L.base + off, none⟩ : Addr).add j) = some v := by
  obtain ⟨L', hL', cs, fz, hb, hsz, hlen, hc, hw⟩ := H.obj _ _ hr
  rw [hL] at hL'; cases hL'
  refine ⟨(cs.toList.drop (L.base + off)).take n, VRs.of_get _ _ (by simp; omega) ?_, ?_, ?_⟩
  · intro i x hx
    have hi : i < n := by have := (List.getElem?_eq_some_iff.1 hx).1; simp at this; omega
    rw [List.getElem?_take_of_lt hi, List.getElem?_drop] at hx
    obtain ⟨v, hv, hr, _⟩ := hc _ x hx
    refine ⟨v, ?_, hr⟩
    rw [List.getElem?_take_of_lt hi, List.getElem?_drop, show L.base + off + i = L.base + (off + i) from by omega]
    simpa using hv
  · intro v hv
    obtain ⟨i, hi⟩ := List.getElem?_of_mem hv
    have hlt : i < n := by have := (List.getElem?_eq_some_iff.1 hi).1; simp at this; omega
    rw [List.getElem?_take_of_lt hlt, List.getElem?_drop] at hi
    obtain ⟨a, ha⟩ : ∃ a, cells[off + i]? = some a := ⟨cells[off + i]'(by omega), List.getElem?_eq_getElem (by omega)⟩
    obtain ⟨u, hu, _, ho⟩ := hc _ a ha
    rw [show L.base + off + i = L.base + (off + i) from by omega] at hi
    simp at hi
    rw [hu] at hi; cases hi; exact ho
  · intro j v hv
    have hlt : j < n := by have := (List.getElem?_eq_some_iff.1 hv).1; simp at this; omega
    rw [List.getElem?_take_of_lt hlt, List.getElem?_drop] at hv
    rw [add_spot]
    simp only [World.cell?, hb]
    simpa using hv

theorem aLoad_run (H : HR B w0 c h w) {t : TypeId} {p a : AV} {v : Value} (hp : VR c p v) (e : aLoad P h t p = some a) : ∃ u, (Instr.loadAt t v).run P w = .ok u w ∧ VR c a u := by
  cases hp with
  | ptr off hL =>
    rename_i r L
    simp only [aLoad] at e
    split at e
    · rename_i elem cells fam wr hr
      split at e
      · rename_i n hag hsz
        split at e
        · rename_i hn
          cases e
          obtain ⟨vs, hvs, _, hcell⟩ := H.cells hr hL off n hn
          have hl : vs.length = n := by rw [← hvs.length]; simp; omega
          have hload := run_loadCells_list (P := P) w ⟨L.blk, L.base + off, none⟩ vs hcell
          rw [hl] at hload
          refine ⟨.agg vs.toArray, ?_, .agg (by simpa using hvs)⟩
          simp [Instr.loadAt, Instr.sureAddr, loadVar, aggO_run hag, sizeB_run hsz, hload]
        · cases e
      · rename_i n hag hsz
        have hlt := (List.getElem?_eq_some_iff.1 e).1
        obtain ⟨vs, hvs, _, hcell⟩ := H.cells hr hL off 1 (by omega)
        have hd : (cells.drop off).take 1 = [a] := by
          rw [List.drop_eq_getElem_cons hlt]
          have := (List.getElem?_eq_some_iff.1 e).2
          simp [this]
        rw [hd] at hvs
        obtain ⟨v', hv', hrr⟩ := hvs.get 0 a (by simp)
        have := hcell 0 v' hv'
        rw [add_spot] at this
        refine ⟨v', ?_, hrr⟩
        simp only [Nat.add_zero] at this
        simp [Instr.loadAt, Instr.sureAddr, loadVar, aggO_run hag, this]
      · cases e
    · cases e
  | _ => simp [aLoad] at e

theorem aPart_run {t : TypeId} {cs : List AV} {cs' : List Value} (hcs : VRs c cs cs') {off : Nat} {a : AV} (e : aPart P t cs off = some a) (w : World) :
    ∃ u, (part t ⟨cs'⟩ off).run P w = .ok u w ∧ VR c a u := by
  unfold aPart at e
  split at e
  · rename_i n hag hsz
    cases e
    refine ⟨.agg ((⟨cs'⟩ : Array Value).extract off (off + n)), by simp [part, aggO_run hag, sizeB_run hsz], ?_⟩
    have : ((⟨cs'⟩ : Array Value).extract off (off + n)) = ⟨(cs'.drop off).take n⟩ := by
      apply Array.ext'
      simp
    rw [this]
    exact .agg ((hcs.drop off).take n)
  · rename_i n hag hsz
    obtain ⟨u, hu, hr⟩ := hcs.get off a e
    exact ⟨u, by simp [part, aggO_run hag, hu], hr⟩
  · cases e

theorem aStore_run (H : HR B w0 c h w) {t : TypeId} {p x : AV} {v u : Value} (hp : VR c p v) (hx : VR c x u) {h' : Hp} (e : aStore P h t p x = some h') :
    ∃ w', (Instr.storeAt t v u).run P w = .ok () w' ∧ HR B w0 c h' w' := by
  unfold aStore at e
  split at e
  · rename_i r off n hsz
    cases hp with
    | ptr _ hL =>
      rename_i L
      split at e
      · rename_i hc
        have hcs := hx.cells hc.2
        have h1 : ∀ v ∈ u.cells.toList, v.oneCell' = true := fun v hv => by
          obtain ⟨i, hi⟩ := List.getElem?_of_mem hv
          have hlt : i < x.cells.length := by rw [hcs.length]; exact (List.getElem?_eq_some_iff.1 hi).1
          obtain ⟨y, hy, hr⟩ := hcs.get i _ (List.getElem?_eq_getElem hlt)
          rw [hi] at hy; cases hy
          exact hr.one (List.all_eq_true.1 hc.2 _ (List.getElem_mem hlt))
        obtain ⟨w', hrun, hH⟩ := H.write (P := P) e hcs h1 hL
        refine ⟨w', ?_, hH⟩
        have hl : u.cells.size = n := by rw [← hc.1, hcs.length]; simp
        simp [Instr.storeAt, Instr.sureAddr, storeVar, sizeB_run hsz, hl, hrun]
      · cases e
  · cases e
end
end Go.Ev
