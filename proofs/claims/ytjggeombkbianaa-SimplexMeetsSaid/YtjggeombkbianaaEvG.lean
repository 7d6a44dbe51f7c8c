/-
  The evaluator's operations that build, index and slice, and the machine's.
-/
import Derived.Test.YtjggeombkbianaaEvF
set_option linter.unusedSimpArgs false
set_option linter.unusedVariables false
set_option linter.unusedSectionVars false
namespace Go.Ev
open Go Go.RowKit

section
variable {P : Program} {B : Kp} {w0 w : World} {c : Ctx} {h : Hp}

theorem all_one {c : Ctx} {cs : List AV} {vs : List Value} (hr : VRs c cs vs) (h1 : cs.all AV.one = true) : ∀ v ∈ vs, v.oneCell' = true := fun v hv => by
  obtain ⟨i, hi⟩ := List.getElem?_of_mem hv
  have hlt : i < cs.length := by rw [hr.length]; exact (List.getElem?_eq_some_iff.1 hi).1
  obtain ⟨y, hy, hr'⟩ := hr.get i _ (List.getElem?_eq_getElem hlt)
  rw [hi] at hy; cases hy
  exact hr'.one (List.all_eq_true.1 h1 _ (List.getElem_mem hlt))

/-- A new row out of related cells (and whatever lies behind them). -/
theorem HR.rowOf (H : HR B w0 c h w) (elem : TypeId) {cells : List AV} {vs : List Value} (hc : VRs c cells vs) (h1 : ∀ v ∈ vs, v.oneCell' = true) (rest : List Value) :
    HR B w0 (c.ext h.next ⟨w.heap.size, 0, (vs ++ rest).length⟩) (h.row elem cells) (w.alloc (.cells ⟨vs ++ rest⟩ elem)) := by
  have hl := hc.length
  have := H.newRow elem cells (⟨vs ++ rest⟩ : Array Value) (by simp; omega) (fun i a ha => by
    obtain ⟨v, hv, hr⟩ := hc.get i a ha
    refine ⟨v, ?_, hr, h1 v (List.mem_of_getElem? hv)⟩
    have hlt : i < vs.length := (List.getElem?_eq_some_iff.1 hv).1
    simp only [List.getElem?_toArray]
    rw [List.getElem?_append_left hlt]; exact hv)
  simpa using this

/-- A computation that lays one new row and gives what stands for its beginning. -/
def RowV (P : Program) (c : Ctx) (s : Sem Value) (w : World) (elem : TypeId) (cells : List AV) (mk : Nat → AV) : Prop :=
  ∃ (vs : List Value) (u : Value), s.run P w = .ok u (w.alloc (.cells ⟨vs⟩ elem)) ∧ VRs c cells vs ∧ (∀ v ∈ vs, v.oneCell' = true) ∧ ∀ (d : Ctx) (r : Nat), d r = some ⟨w.heap.size, 0, vs.length⟩ → VR d (mk r) u
theorem RowV.val (H : HR B w0 c h w) {s : Sem Value} {elem : TypeId} {cells : List AV} {mk : Nat → AV} (R : RowV P c s w elem cells mk) :
    ∃ c' w' u, s.run P w = .ok u w' ∧ Ctx.le c c' ∧ VR c' (mk h.next) u ∧ HR B w0 c' (h.row elem cells) w' := by
  obtain ⟨vs, u, hrun, hvs, h1, hu⟩ := R
  have H' := H.rowOf elem hvs h1 []
  simp only [List.append_nil] at H'
  exact ⟨_, _, u, hrun, Ctx.le_ext (H.fresh _ (Nat.le_refl _)), hu _ _ (Ctx.ext_same _ _ _), H'⟩
theorem box_row {t : TypeId} {x : AV} {v : Value} (hx : VR c x v) (h1 : x.cells.all AV.one = true) : RowV P c (Instr.box t v) w t x.cells fun r => .ptr r 0 := by
  have hcs := hx.cells h1
  refine ⟨v.cells.toList, .pointer (some ⟨w.heap.size, 0, none⟩), ?_, hcs, all_one hcs h1, fun d r hd => ?_⟩
  · simp [Instr.box, newVar, newRow]
  · simpa using VR.ptr (c := d) 0 hd
theorem alloc_row {t : TypeId} {z : AV} (hz : zeroB P t = some z) (h1 : z.cells.all AV.one = true) : RowV P c (Instr.alloc t true (.tuple #[])) w t z.cells fun r => .ptr r 0 := by
  obtain ⟨v, hv, ho⟩ := zeroB_run hz w
  obtain ⟨vs, u, hrun, h2⟩ := box_row (P := P) (w := w) (t := t) (ofV_VR c v z ho) h1
  refine ⟨vs, u, ?_, h2⟩
  simp only [Instr.alloc, Sem.run_bind, hv, Result.andThen_ok]
  exact hrun
theorem box_run (H : HR B w0 c h w) {t : TypeId} {x : AV} {v : Value} (hx : VR c x v) (h1 : x.cells.all AV.one = true) :
    ∃ c' w' u, (Instr.box t v).run P w = .ok u w' ∧ Ctx.le c c' ∧ VR c' (.ptr h.next 0) u ∧ HR B w0 c' (h.row t x.cells) w' := (box_row hx h1).val H
theorem alloc_run (H : HR B w0 c h w) {t : TypeId} {z : AV} (hz : zeroB P t = some z) (h1 : z.cells.all AV.one = true) :
    ∃ c' w' u, (Instr.alloc t true (.tuple #[])).run P w = .ok u w' ∧ Ctx.le c c' ∧ VR c' (.ptr h.next 0) u ∧ HR B w0 c' (h.row t z.cells) w' := (alloc_row hz h1).val H

theorem foldl_seg (off : Nat) : ∀ (l : List Value) (k : Nat) (cs : Array Value), off + k + l.length ≤ cs.size →
    (l.zipIdx k).foldl (fun cs x => cs.setIfInBounds (off + x.2) x.1) cs = seg cs (off + k) l
  | [], k, cs, _ => by simp [seg]
  | v :: l, k, cs, hl => by
    simp only [List.zipIdx_cons, List.foldl_cons]
    rw [foldl_seg off l (k + 1) _ (by simp at hl ⊢; omega)]
    have e := list_seg_step cs.toList (off + k) v l (by simp at hl ⊢; omega)
    simp only [seg]
    congr 1
    simpa [Array.toList_setIfInBounds, Nat.add_assoc] using e

theorem seg_VRs {c : Ctx} {cells : List AV} {cs : Array Value} (h : VRs c cells cs.toList) {off : Nat} {new : List AV} {news : List Value} (hn : VRs c new news) :
    VRs c (patch cells off new) (seg cs off news).toList := by
  have e : (seg cs off news).toList = cs.toList.take off ++ (news ++ cs.toList.drop (off + new.length)) := by simp [seg, hn.length]
  rw [e]
  exact (h.take off).append (hn.append (h.drop _))

theorem afill_length {place : Nat → Option (Nat × Nat)} : ∀ {parts : List (Nat × AV)} {cells r : List AV}, afill place cells parts = some r → r.length = cells.length
  | [], cells, r, e => by simp only [afill, Option.some.injEq] at e; rw [e]
  | (i, v) :: rest, cells, r, e => by
    simp only [afill] at e
    split at e
    · cases e
    · split at e
      · rename_i hfit
        rw [afill_length e]
        exact patch_length (by omega)
      · cases e

/-- The parts of a composite value. -/
inductive PRs (c : Ctx) : List (Nat × AV) → List (Nat × Value) → Prop
  | nil : PRs c [] []
  | cons (i : Nat) {a : AV} {v : Value} {as : List (Nat × AV)} {vs : List (Nat × Value)} (hr : VR c a v) (t : PRs c as vs) : PRs c ((i, a) :: as) ((i, v) :: vs)

theorem fill_run {place : Nat → Option (Nat × Nat)} : ∀ {parts : List (Nat × AV)} {parts' : List (Nat × Value)}, PRs c parts parts' → ∀ {cells : List AV} {cs : Array Value}, VRs c cells cs.toList →
    ∀ {r : List AV}, afill place cells parts = some r → ∃ cs', Instr.fill place cs parts' = some cs' ∧ VRs c r cs'.toList
  | _, _, .nil, cells, cs, hc, r, e => by simp only [afill, Option.some.injEq] at e; subst e; exact ⟨cs, rfl, hc⟩
  | _, _, .cons i (a := a) (v := v) hr t, cells, cs, hc, r, e => by
    simp only [afill] at e
    split at e
    · cases e
    · rename_i off size hp
      split at e
      · rename_i hfit
        have hcl := hr.cells hfit.2.2
        have hls : v.cells.size = size := by rw [← hfit.1, hcl.length]; simp
        have hcs : cells.length = cs.size := by rw [hc.length]; simp
        have hf : Array.foldl (fun (cs : Array Value) (x : Value × Nat) => cs.setIfInBounds (off + x.2) x.1) cs v.cells.zipIdx = seg cs off v.cells.toList := by
          rw [← Array.foldl_toList, Array.toList_zipIdx]
          exact foldl_seg off v.cells.toList 0 cs (by simp; omega)
        obtain ⟨cs', he, hr'⟩ := fill_run t (seg_VRs hc hcl) e
        refine ⟨cs', ?_, hr'⟩
        simp only [Instr.fill, hp]
        have h0 : (decide (v.cells.size ≠ size) || decide (off + v.cells.size > cs.size)) = false := by simp; omega
        rw [if_neg (by simpa using h0)]
        rw [← he]
        congr 1
        
      · cases e

theorem fieldPlaces_run : ∀ {fs : List Field} {ps : List (Nat × Nat)}, fieldPlaces P fs = some ps → ∀ w : World, (fs.mapM fun f => (do pure (f.offset, ← sizeOf f.type) : Sem (Nat × Nat))).run P w = .ok ps w
  | [], ps, e, w => by simp only [fieldPlaces, Option.some.injEq] at e; subst e; simp
  | f :: fs, ps, e, w => by
    simp only [fieldPlaces] at e
    split at e
    · rename_i n qs hn hq
      cases e
      have ih := fieldPlaces_run hq w
      simp only [List.mapM_cons, Sem.run_bind, sizeB_run hn, Result.andThen_ok, Sem.run_pure, ih]
    · cases e

theorem aBuild_run {t : TypeId} {parts : List (Nat × AV)} {parts' : List (Nat × Value)} (hp : PRs c parts parts') {a : AV} (e : aBuild P t parts = some a) (w : World) :
    ∃ u, (Instr.build t ⟨parts'⟩).run P w = .ok u w ∧ VR c a u := by
  unfold aBuild at e
  split at e
  · rename_i z fields hz hu
    split at e
    · rename_i ps hps
      split at e
      · rename_i h1
        simp only [Option.map_eq_some_iff] at e
        obtain ⟨r, hr, rfl⟩ := e
        obtain ⟨v, hv, ho⟩ := zeroB_run hz w
        obtain ⟨cs', hf, hcs⟩ := fill_run hp ((ofV_VR c v z ho).cells h1) hr
        have hm := fieldPlaces_run (P := P) hps w
        refine ⟨.agg cs', ?_, .agg (cs' := cs'.toList) hcs⟩
        have hpl : (fun i : Nat => (List.toArray ps)[i]?) = (fun i : Nat => ps[i]?) := by funext i; simp
        simp only [Instr.build, Sem.run_bind, hv, Result.andThen_ok, run_underlying hu, Array.mapM_eq_mapM_toList, Sem.run_map, hm]
        rw [hpl, hf]
        rfl
      · cases e
    · cases e
  · rename_i z n elem hz hu
    split at e
    · rename_i size hs
      split at e
      · rename_i h1
        simp only [Option.map_eq_some_iff] at e
        obtain ⟨r, hr, rfl⟩ := e
        obtain ⟨v, hv, ho⟩ := zeroB_run hz w
        obtain ⟨cs', hf, hcs⟩ := fill_run hp ((ofV_VR c v z ho).cells h1) hr
        refine ⟨.agg cs', ?_, .agg (cs' := cs'.toList) hcs⟩
        simp only [Instr.build, Sem.run_bind, hv, Result.andThen_ok, run_underlying hu, sizeB_run hs]
        rw [hf]
        rfl
      · cases e
    · cases e
  · cases e

theorem repeat_length (z : List AV) : ∀ n, (repeatCells z n).length = n * z.length
  | 0 => by simp [repeatCells]
  | n + 1 => by simp [repeatCells, repeat_length z n, Nat.add_mul]; omega
theorem repeat_get (z : List AV) : ∀ (n i : Nat), i < n * z.length → (repeatCells z n)[i]? = z[i % z.length]?
  | 0, i, hi => by simp at hi
  | n + 1, i, hi => by
    simp only [repeatCells]
    by_cases hl : i < z.length
    · rw [List.getElem?_append_left hl, Nat.mod_eq_of_lt hl]
    · rw [List.getElem?_append_right (by omega), repeat_get z n (i - z.length) (by rw [Nat.add_mul] at hi; omega)]
      congr 1
      exact (Nat.mod_eq_sub_mod (by omega)).symm
theorem repeat_VRs {c : Ctx} {zc : List AV} {z : Array Value} (hz : VRs c zc z.toList) (n m : Nat) (hm : m = n * z.size) :
    VRs c (repeatCells zc n) ((Array.range m).map (fun i => z[i % z.size]!)).toList := by
  have hl : zc.length = z.size := by rw [hz.length]; simp
  refine VRs.of_get _ _ (by rw [repeat_length, hl]; simp [hm]) fun i x hx => ?_
  have hi : i < n * zc.length := by have := (List.getElem?_eq_some_iff.1 hx).1; rwa [repeat_length] at this
  rw [repeat_get _ _ _ hi] at hx
  obtain ⟨v, hv, hr⟩ := hz.get _ x hx
  refine ⟨v, ?_, hr⟩
  rw [hl] at hv
  have hlt : i % z.size < z.size := by have := (List.getElem?_eq_some_iff.1 hv).1; simpa using this
  have : z[i % z.size] = v := by simpa [hlt] using hv
  simp [hm, ← hl, hi]
  rw [hl]
  simp [hlt, this]

theorem wrap_nat (n : Nat) (hn : n < 2147483648) : IntKind.i64.wrap (n : Int) = n := by
  have e1 : (n : Int) % 18446744073709551616 = n := by omega
  have e2 : ¬ ((n : Int) ≥ 9223372036854775808) := by omega
  simp [IntKind.wrap, IntKind.bits, IntKind.signed, e1]
  omega

theorem aBuildSlice_row {t : TypeId} {len : Nat} {parts : List (Nat × AV)} {a : AV} {h' : Hp} (e : aBuildSlice P h t len parts = some (a, h')) :
    ∃ elem cells mk, a = mk h.next ∧ h' = h.row elem cells ∧ (∀ k : Hp, aBuildSlice P k t len parts = some (mk k.next, k.row elem cells)) ∧
      ∀ (c : Ctx) (parts' : List (Nat × Value)) (w : World), PRs c parts parts' → RowV P c (Instr.buildSlice t len ⟨parts'⟩) w elem cells mk := by
  unfold aBuildSlice at e
  split at e
  · rename_i elem hu
    split at e
    · rename_i size z hs hz
      split at e
      · rename_i hc
        split at e
        · rename_i cells hf
          split at e
          · rename_i h1
            cases e
            refine ⟨elem, cells, fun r => .slice r 0 len len size true, rfl, rfl, fun k => ?_, fun c parts' w hp => ?_⟩
            · unfold aBuildSlice
              simp only [hu, hs, hz, if_pos hc, hf, if_pos h1]
            obtain ⟨v, hv, ho⟩ := zeroB_run hz w
            have hzv := (ofV_VR c v z ho).cells hc.2.2
            have hzs : v.cells.size = size := by rw [← hc.2.1, hzv.length]; simp
            have hrep : VRs c (repeatCells z.cells len) ((Array.range (len * size)).map (fun i => (if len * size = 0 then #[] else v.cells)[i % (if len * size = 0 then #[] else v.cells).size]!)).toList := by
              by_cases h0 : len * size = 0
              · have : repeatCells z.cells len = [] := by
                  apply List.eq_nil_of_length_eq_zero
                  rw [repeat_length, hc.2.1, h0]
                rw [this]; simp [h0]; exact .nil
              · simp only [h0, if_false]
                exact repeat_VRs hzv len _ (by rw [hzs])
            obtain ⟨cs', hfr, hcs⟩ := fill_run hp hrep hf
            have hlen : cs'.size = len * size := by
              have e1 := afill_length hf
              have e2 := hcs.length
              rw [repeat_length, hc.2.1] at e1
              simp at e2; omega
            refine ⟨cs'.toList, .slice (some ⟨w.heap.size, 0, none⟩) len len, ?_, hcs, all_one hcs h1, fun d r hd => ?_⟩
            · have h24 : ¬ (len * size > 2 ^ 24) := by omega
              simp only [Instr.buildSlice, Sem.run_bind, run_underlying hu, Result.andThen_ok, sizeB_run hs]
              simp only [h24, if_false, Sem.run_pure, Result.andThen_ok]
              by_cases h0 : len * size = 0
              · simp only [h0, if_true] at hfr
                simp only [h0, if_true, Sem.run_bind, Sem.run_pure, Result.andThen_ok, hfr, newRow, run_newObj]
                simp
              · simp only [h0, if_false] at hfr
                simp only [h0, if_false, Sem.run_bind, Sem.run_pure, hv, Result.andThen_ok, hfr, newRow, run_newObj]
                simp
            · have := VR.slice (c := d) (r := r) (off := 0) (len := len) (cap := len) (esz := size) (ex := true) len hd (Nat.le_refl _) (Nat.le_refl _) (fun _ => rfl) (by simp; omega)
              simpa using this
          · cases e
        · cases e
      · cases e
    · cases e
  · cases e

theorem aBuildSlice_run (H : HR B w0 c h w) {t : TypeId} {len : Nat} {parts : List (Nat × AV)} {parts' : List (Nat × Value)} (hp : PRs c parts parts') {a : AV} {h' : Hp} (e : aBuildSlice P h t len parts = some (a, h')) :
    ∃ c' w' u, (Instr.buildSlice t len ⟨parts'⟩).run P w = .ok u w' ∧ Ctx.le c c' ∧ VR c' a u ∧ HR B w0 c' h' w' := by
  obtain ⟨elem, cells, mk, rfl, rfl, _, hr⟩ := aBuildSlice_row e
  exact (hr c parts' w hp).val H

theorem natOf_int {c : Ctx} {a : AV} {v : Value} {n : Nat} (h : VR c a v) (e : natOf a = some n) : ∃ k, v = .int k (Int.ofNat n) := by
  cases h <;> simp [natOf] at e
  rename_i k m
  cases m with
  | ofNat m => simp at e; subst e; exact ⟨k, rfl⟩
  | negSucc m => simp at e

theorem aMakeSlice_row {t : TypeId} {l k a : AV} {h' : Hp} (e : aMakeSlice P h t l k = some (a, h')) :
    ∃ elem cells mk, a = mk h.next ∧ h' = h.row elem cells ∧ (∀ g : Hp, aMakeSlice P g t l k = some (mk g.next, g.row elem cells)) ∧
      ∀ (c : Ctx) (lv kv : Value) (w : World), VR c l lv → VR c k kv → RowV P c (Instr.makeSlice t lv kv) w elem cells mk := by
  unfold aMakeSlice at e
  split at e
  · rename_i elem len cap hu hln hcp
    split at e
    · rename_i i z hi hz
      split at e
      · rename_i hc
        cases e
        refine ⟨elem, repeatCells z.cells cap, fun r => .slice r 0 len cap i.size true, rfl, rfl, fun g => ?_, fun c lv kv w hl hk => ?_⟩
        · unfold aMakeSlice
          simp only [hu, hln, hcp, hi, hz, if_pos hc]
        obtain ⟨k1, rfl⟩ := natOf_int hl hln
        obtain ⟨k2, rfl⟩ := natOf_int hk hcp
        obtain ⟨v, hv, ho⟩ := zeroB_run hz w
        have hzv := (ofV_VR c v z ho).cells hc.2.2.2.2
        have hzs : v.cells.size = i.size := by rw [← hc.2.2.2.1, hzv.length]; simp
        have hrep : VRs c (repeatCells z.cells cap) ((Array.range (cap * i.size)).map (fun j => (if cap * i.size = 0 then #[] else v.cells)[j % (if cap * i.size = 0 then #[] else v.cells).size]!)).toList := by
          by_cases h0 : cap * i.size = 0
          · have : repeatCells z.cells cap = [] := by
              apply List.eq_nil_of_length_eq_zero
              rw [repeat_length, hc.2.2.2.1, h0]
            rw [this]; simp [h0]; exact .nil
          · simp only [h0, if_false]
            exact repeat_VRs hzv cap _ (by rw [hzs])
        have hone : (repeatCells z.cells cap).all AV.one = true := by
          rw [List.all_eq_true]
          intro x hx
          obtain ⟨j, hj⟩ := List.getElem?_of_mem hx
          have hlt : j < cap * z.cells.length := by have := (List.getElem?_eq_some_iff.1 hj).1; rwa [repeat_length] at this
          rw [repeat_get _ _ _ hlt] at hj
          exact List.all_eq_true.1 hc.2.2.2.2 x (List.mem_of_getElem? hj)
        refine ⟨_, .slice (some ⟨w.heap.size, 0, none⟩) len cap, ?_, hrep, all_one hrep hone, fun d r hd => ?_⟩
        · have w1 := wrap_nat len (by omega)
          have w2 := wrap_nat cap (by omega)
          have hb : ((i.bytes : Int) * (cap : Int) > 2 ^ 48) = False := by
            simp only [gt_iff_lt, eq_iff_iff, iff_false]
            have := hc.2.2.1
            have h2 : (i.bytes : Int) * (cap : Int) ≤ 281474976710656 := by
              have := Int.ofNat_le.2 this
              rwa [Int.natCast_mul] at this
            have h3 : (2 : Int) ^ 48 = 281474976710656 := by decide
            rw [h3]; omega
          have hle := hc.1
          have hcond : (decide ((cap : Int) < 0) || decide ((i.bytes : Int) * (cap : Int) > 2 ^ 48) || decide ((len : Int) < 0) || decide ((len : Int) > (cap : Int))) = false := by
            simp only [hb]
            simp
            omega
          simp only [Instr.makeSlice, Sem.run_bind, run_underlying hu, Result.andThen_ok, asInt, asIntOf, Sem.run_pure, typeInfo, run_program, hi, Int.ofNat_eq_natCast, w1, w2, hcond, Bool.false_eq_true, if_false, run_askRoom, sizeOf, Int.toNat_natCast]
          by_cases h0 : cap * i.size = 0
          · simp only [h0, if_true, Sem.run_bind, Sem.run_pure, Result.andThen_ok, newRow, run_newObj]
            simp
            congr 2
            apply Array.ext'
            simp
          · simp only [h0, if_false, Sem.run_bind, Sem.run_pure, hv, Result.andThen_ok, newRow, run_newObj]
            simp
            congr 2
            apply Array.ext'
            simp
        · have := VR.slice (c := d) (r := r) (off := 0) (len := len) (cap := cap) (esz := i.size) (ex := true) cap hd hc.1 (Nat.le_refl _) (fun _ => rfl) (by simp)
          simpa using this
      · cases e
    · cases e
  · cases e
theorem aMakeSlice_run (H : HR B w0 c h w) {t : TypeId} {l k a : AV} {lv kv : Value} (hl : VR c l lv) (hk : VR c k kv) {h' : Hp} (e : aMakeSlice P h t l k = some (a, h')) :
    ∃ c' w' u, (Instr.makeSlice t lv kv).run P w = .ok u w' ∧ Ctx.le c c' ∧ VR c' a u ∧ HR B w0 c' h' w' := by
  obtain ⟨elem, cells, mk, rfl, rfl, _, hr⟩ := aMakeSlice_row e
  exact (hr c lv kv w hl hk).val H
end
end Go.Ev
