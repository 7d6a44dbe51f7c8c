/-
  Where the evaluator begins: a memory that holds package-level tables; and the functions without a Go body.
-/
import Derived.Test.YtjggeombkbianaaEvS
import Derived.Laws.Externs
import Derived.Lib.MakeNoZero
import Derived.Lib.LaidTab
import Derived.Lib.Bytealg
import Derived.ChangeSame
namespace Go.Ev
open Go Go.RowKit

/-! A memory that holds tables. -/
/-- A table: its block, its elements' type, its cells. -/
structure Tab where
  blk : Nat
  elem : TypeId
  cells : List AV
noncomputable def fillT {α : Type} : Nat → List α → Tr α → Tr α
  | _, [], t => t
  | i, v :: vs, t => fillT (i + 1) vs (t.set i v)
theorem fillT_get {α : Type} : ∀ (vs : List α) (i : Nat) (t : Tr α) (j : Nat), (fillT i vs t).get j = if i ≤ j ∧ j < i + vs.length then vs[j - i]? else t.get j
  | [], i, t, j => by simp only [fillT, List.length_nil]; rw [if_neg (by omega)]
  | v :: vs, i, t, j => by
    simp only [fillT]
    rw [fillT_get vs (i + 1), Tr.get_set]
    by_cases e : j = i
    · subst e
      rw [if_neg (by omega), if_pos rfl, if_pos ⟨by omega, by simp⟩]
      simp
    · by_cases h : i + 1 ≤ j ∧ j < i + 1 + vs.length
      · rw [if_pos h, if_pos ⟨by omega, by simp; omega⟩]
        rw [show j - i = (j - (i + 1)) + 1 from by omega]
        simp
      · rw [if_neg h, if_neg e, if_neg (by simp; omega)]
noncomputable def rowsOf : Nat → List Tab → List AObj
  | _, [] => []
  | i, t :: ts => .row t.elem t.cells i false :: rowsOf (i + 1) ts
noncomputable def tabHp (ts : List Tab) : Hp := { next := ts.length, objs := fillT 0 (rowsOf 0 ts) .lf, fams := .lf }
noncomputable def tabCtx (ts : List Tab) : Ctx := fun i => (ts[i]?).map fun t => ⟨t.blk, 0, t.cells.length⟩
theorem rowsOf_length : ∀ (ts : List Tab) (i : Nat), (rowsOf i ts).length = ts.length
  | [], _ => rfl
  | t :: ts, i => by simp [rowsOf, rowsOf_length ts]
theorem rowsOf_get : ∀ (ts : List Tab) (i j : Nat), (rowsOf i ts)[j]? = (ts[j]?).map fun t => .row t.elem t.cells (i + j) false
  | [], i, j => by simp [rowsOf]
  | t :: ts, i, 0 => by simp [rowsOf]
  | t :: ts, i, j + 1 => by
    simp only [rowsOf, List.getElem?_cons_succ, rowsOf_get ts (i + 1) j]
    congr 1
    funext x
    rw [show i + 1 + j = i + (j + 1) from by omega]
theorem tabHp_get (ts : List Tab) (j : Nat) : (tabHp ts).get j = (ts[j]?).map fun t => .row t.elem t.cells j false := by
  show (fillT 0 (rowsOf 0 ts) .lf).get j = _
  rw [fillT_get, rowsOf_length]
  by_cases h : j < ts.length
  · rw [if_pos ⟨by omega, by omega⟩, rowsOf_get, Nat.sub_zero, Nat.zero_add]
  · rw [if_neg (by omega), Tr.get_lf, List.getElem?_eq_none (by omega)]; rfl

/-- The machine's memory holds the tables. -/
def Held (w : World) (ts : List Tab) : Prop := ∀ t ∈ ts, ∃ (cs : List Value) (fz : Nat × Nat), w.heap[t.blk]? = some (.cells ⟨cs⟩ t.elem fz) ∧ ofVs cs = some t.cells ∧ ∀ v ∈ cs, v.oneCell' = true
theorem Held.mono {w w' : World} {ts : List Tab} (h : Held w ts) (hb : ∀ k, k < w.heap.size → w'.heap[k]? = w.heap[k]?) : Held w' ts := fun t ht => by
  obtain ⟨cs, fz, h1, h2, h3⟩ := h t ht
  refine ⟨cs, fz, (hb _ ?_).trans h1, h2, h3⟩
  rcases Nat.lt_or_ge t.blk w.heap.size with h | h
  · exact h
  · rw [Array.getElem?_eq_none h] at h1; cases h1

theorem Held.hr {w : World} {ts : List Tab} (h : Held w ts) {B : Kp} {w0 : World} (hb : Keep B.keep w0 w) (hB : ∀ k, B.keep k → k < w.heap.size) (hav : ∀ k, ¬ B.avoid k) : HR B w0 (tabCtx ts) (tabHp ts) w := by
  have hnot : ∀ i o, (tabHp ts).get i = some o → o.owned = false := fun i o e => by
    rw [tabHp_get] at e
    obtain ⟨t, _, rfl⟩ := Option.map_eq_some_iff.1 e
    rfl
  refine ⟨hb, hB, fun i hi => ?_, fun i o hi => ?_, fun i L hL => ?_, fun i L _ => hav _, ?_, fun i e cs f hi => ?_, fun f ms hf => ?_, fun f ms hf => ?_, fun f ms hf => ?_, fun i e cs wr L _ hL => ?_⟩
  · unfold tabCtx
    rw [List.getElem?_eq_none (show ts.length ≤ i from hi)]; rfl
  · rw [tabHp_get] at hi
    obtain ⟨t, ht, rfl⟩ := Option.map_eq_some_iff.1 hi
    refine ⟨⟨t.blk, 0, t.cells.length⟩, by unfold tabCtx; rw [ht]; rfl, ?_⟩
    obtain ⟨cs, fz, h1, h2, h3⟩ := h t (List.mem_of_getElem? ht)
    have hr := ofVs_VRs (tabCtx ts) cs t.cells h2
    refine ⟨⟨cs⟩, fz, h1, by show cs.length = 0 + t.cells.length; rw [← hr.length]; omega, Nat.le_refl _, fun j a ha => ?_, fun hf => by cases hf⟩
    obtain ⟨v, hv, hvr⟩ := hr.get j a ha
    refine ⟨v, ?_, hvr, h3 v (List.mem_of_getElem? hv)⟩
    rw [Nat.zero_add]
    simpa using hv
  · unfold tabCtx at hL
    obtain ⟨t, ht, rfl⟩ := Option.map_eq_some_iff.1 hL
    obtain ⟨cs, fz, h1, _⟩ := h t (List.mem_of_getElem? ht)
    rcases Nat.lt_or_ge t.blk w.heap.size with hh | hh
    · exact hh
    · rw [Array.getElem?_eq_none hh] at h1; cases h1
  · intro i j oi oj Li Lj hi hj hci hcj hij ho
    rw [hnot i oi hi] at ho; cases ho
  · have := hnot i _ hi
    cases this
  · rw [show (tabHp ts).fams = .lf from rfl, Tr.get_lf] at hf; cases hf
  · rw [show (tabHp ts).fams = .lf from rfl, Tr.get_lf] at hf; cases hf
  · rw [show (tabHp ts).fams = .lf from rfl, Tr.get_lf] at hf; cases hf
  · unfold tabCtx at hL
    obtain ⟨t, ht, rfl⟩ := Option.map_eq_some_iff.1 hL
    rfl

/-- A call that the evaluator carries out from the tables alone is carried out so in every world that holds them. -/
theorem call_held {C : Cfg} {w : World} (K : CfgOK C (Kp.low w.heap.size) w) {ts : List Tab} (hG : ∀ g r, C.glob g = some r → ∃ t, ts[r]? = some t ∧ t.blk = g) {d : Nat} {f : FuncId} {args : List AV} {args' : List Value} (hA : VRs (tabCtx ts) args args') {v : AV} {h' : Hp}
    (e : (evRec C d).call f args (tabHp ts) = some (v, h')) (H : Held w ts) :
    Calls C.P f ⟨args'⟩ w fun e w' => ∃ c' u, e = .returned u ∧ VR c' v u ∧ Below w.heap.size w w' := by
  have G : GR C (tabCtx ts) := fun g r hgr => by
    obtain ⟨t, ht, rfl⟩ := hG g r hgr
    exact ⟨t.cells.length, by unfold tabCtx; rw [ht]; rfl⟩
  obtain ⟨_, hci⟩ := (evRec_ok K d).1 _ _ (Sub.refl _ _) f args _ v h' e w _ args' G (H.hr (Keep.refl _ _) (fun k h => h) (fun k h => h)) hA
  refine (callsIn_wide.1 hci).mono fun ed w' hp => ?_
  cases ed with
  | returned u =>
    obtain ⟨c', _, hvr, H'⟩ := hp
    exact ⟨c', u, rfl, hvr, H'.below.below⟩
  | panicked ch => exact hp.elim
  | outgrown => exact hp.elim

/-- Is this what was asked: true? -/
noncomputable def isTrue : Option (AV × Hp) → Bool
  | some (.bool true, _) => true
  | _ => false
theorem call_true {C : Cfg} {w : World} (K : CfgOK C (Kp.low w.heap.size) w) {ts : List Tab} (hG : ∀ g r, C.glob g = some r → ∃ t, ts[r]? = some t ∧ t.blk = g) {d : Nat} {f : FuncId} {args : List AV} {args' : List Value} (hA : VRs (tabCtx ts) args args')
    (e : isTrue ((evRec C d).call f args (tabHp ts)) = true) (H : Held w ts) :
    Calls C.P f ⟨args'⟩ w fun e w' => e = .returned (.bool true) ∧ Below w.heap.size w w' := by
  cases hc : (evRec C d).call f args (tabHp ts) with
  | none => rw [hc] at e; cases e
  | some r =>
    obtain ⟨v, h'⟩ := r
    rw [hc] at e
    unfold isTrue at e
    split at e
    · rename_i h2 hv
      cases hv
      refine (call_held K hG hA hc H).mono fun ed w' hp => ?_
      obtain ⟨c', u, rfl, hvr, hb⟩ := hp
      cases hvr
      exact ⟨rfl, hb⟩
    · cases e

/-- What a call that leaves all that was there as it was leaves of the evaluator's memory. -/
theorem HR.after {B : Kp} {w0 w w' : World} {c : Ctx} {h : Hp} (H : HR B w0 c h w) (hb : Below w.heap.size w w') : HR B w0 c h w' :=
  ⟨H.below.trans ((Keep.of_below hb).mono H.hB), fun k hk => Nat.lt_of_lt_of_le (H.hB k hk) hb.size, H.fresh, fun i o hi => by
    obtain ⟨L, hL, ho⟩ := H.obj i o hi
    exact ⟨L, hL, ho.keep (Ctx.le_refl c) (.inr (hb.block _ (H.lt i L hL)))⟩, fun i L hL => Nat.lt_of_lt_of_le (H.lt i L hL) hb.size, H.av, H.apart, H.fam, H.famlt, H.chain, H.mem, H.base0⟩
theorem callFunc_enter {P : Program} {f : FuncId} {fn : Func} {code : Code} (hf : P.funcs[f]? = some fn) (hb : fn.body = some code) (hn : fn.name ≠ "runtime.NumGoroutine") (args : Array Value) (w : World) : (callFunc f args).run P w = .ok (.enter f args) w := by
  simp [callFunc, Sem.run_bind, run_program, hf, hn, hb]
/-- A function without parameters that is known to return true. -/
noncomputable def primTrue : List AV → Hp → Option (AV × Hp)
  | [], h => some (.bool true, h)
  | _, _ => none
theorem prim_true {P : Program} {f : FuncId} {fn : Func} {code : Code} (hf : P.funcs[f]? = some fn) (hb : fn.body = some code) (hn : fn.name ≠ "runtime.NumGoroutine") {w0 : World} {ts : List Tab} (H0 : Held w0 ts)
    (hcall : ∀ w, Held w ts → Calls P f #[] w fun e w' => e = .returned (.bool true) ∧ Below w.heap.size w w') {args : List AV} {h h' : Hp} {v : AV} (e : primTrue args h = some (v, h')) {B' : Kp} {w1 : World} (s : Sub (Kp.low w0.heap.size) w0 B' w1) {w : World} {c : Ctx} {args' : List Value} (H : HR B' w1 c h w) (hA : VRs c args args') :
    (callFunc f ⟨args'⟩).run P w = .ok (.enter f ⟨args'⟩) w ∧ CallsIn Fence.wide 0 P f ⟨args'⟩ w (CPost B' w1 c v h') := by
  unfold primTrue at e
  split at e
  · cases e
    cases hA
    refine ⟨callFunc_enter hf hb hn _ w, callsIn_wide.2 ((hcall w (H0.mono fun k hk => (H.below.block k (s.more k hk)).trans (s.kept.block k hk))).mono fun ed w' hp => ?_)⟩
    obtain ⟨rfl, hbl⟩ := hp
    exact ⟨c, Ctx.le_refl c, .bool true, H.after hbl⟩
  · cases e

/-! Functions without a Go body. -/
section
variable {P : Program} {B : Kp} {w0 w : World} {c : Ctx} {h : Hp}
/-- What an entry of the library's gives. -/
def ExtR (P : Program) (f : FuncId) (g : List AV → Hp → Option (AV × Hp)) : Prop := ∀ args h v h', g args h = some (v, h') → ∀ (B : Kp) (w0 w : World) (c : Ctx) (args' : List Value), HR B w0 c h w → VRs c args args' →
  ∃ c' w' u, (callFunc f ⟨args'⟩).run P w = .ok (.value u) w' ∧ Ctx.le c c' ∧ VR c' v u ∧ HR B w0 c' h' w'
theorem ext_same {f : FuncId} {fn : Func} (hf : P.funcs[f]? = some fn) (hname : (fn.name == "runtime.NumGoroutine") = false) (hb : fn.body.isNone = true) (hn : Extern.findNext fn = none) (he : Extern.find fn = some Extern.AbiNoEscape.same) : ExtR P f extNoEscape := by
  intro args h v h' e B w0 w c args' H hA
  unfold extNoEscape at e
  split at e
  · cases e
    cases hA with
    | cons h1 t =>
      cases t
      exact ⟨c, w, _, by rw [run_callFunc_extern hf hname hb hn he]; rfl, Ctx.le_refl c, h1, H⟩
  · cases e
theorem find_byte (cb : UInt8) : ∀ (s : List UInt8) (pre : List UInt8), (match ((List.range' pre.length s.length).find? fun i => (⟨⟨pre ++ s⟩⟩ : ByteArray)[i]! == cb) with | some i => (i : Int) | none => -1) = findByte cb s pre.length
  | [], pre => by simp [findByte]
  | b :: s, pre => by
    have ih := find_byte cb s (pre ++ [b])
    have hget : (⟨⟨pre ++ b :: s⟩⟩ : ByteArray)[pre.length]! = b := by
      have hlt : pre.length < (⟨⟨pre ++ b :: s⟩⟩ : ByteArray).size := by
        show pre.length < (pre ++ b :: s).length
        simp
      rw [getElem!_pos (⟨⟨pre ++ b :: s⟩⟩ : ByteArray) pre.length hlt]
      show (pre ++ b :: s)[pre.length]'_ = b
      simp
    simp only [List.length_cons, List.range'_succ, List.find?_cons, findByte, hget]
    cases hb : b == cb with
    | true => simp
    | false =>
      simp only [cond_false]
      rw [List.append_assoc, List.length_append] at ih
      exact ih
theorem ext_indexByte {f : FuncId} {fn : Func} (hf : P.funcs[f]? = some fn) (hname : (fn.name == "runtime.NumGoroutine") = false) (hb : fn.body.isNone = true) (hn : Extern.findNext fn = none) (he : Extern.find fn = some Extern.BytealgIndexByte.indexByte) : ExtR P f extIndexByteString := by
  intro args h v h' e B w0 w c args' H hA
  unfold extIndexByteString at e
  split at e
  · rename_i hh s cb
    cases e
    cases hA with
    | cons h1 t =>
      cases t with
      | cons h2 t =>
        cases t; cases h1; cases h2
        refine ⟨c, w, _, by rw [run_callFunc_extern hf hname hb hn he, show (⟨[Value.string ⟨⟨s⟩⟩, Value.int .u8 cb]⟩ : Array Value) = #[Value.string ⟨⟨s⟩⟩, Value.int .u8 cb] from rfl, run_indexByte_string]; rfl, Ctx.le_refl c, ?_, H⟩
        have := find_byte cb.toNat.toUInt8 s []
        have hq : firstIdx ⟨⟨s⟩⟩ cb.toNat.toUInt8 = findByte cb.toNat.toUInt8 s 0 := by
          unfold firstIdx
          rw [List.range_eq_range']
          exact this
        rw [hq]
        exact .int _ _
  · cases e
theorem count_eq (cb : UInt8) : ∀ (s : List UInt8) (n : Nat), countByte cb s n = n + s.count cb
  | [], n => rfl
  | b :: s, n => by
    simp only [countByte]
    rw [count_eq cb s, List.count_cons]
    cases h : b == cb <;> simp <;> omega
theorem ext_count {f : FuncId} {fn : Func} (hf : P.funcs[f]? = some fn) (hname : (fn.name == "runtime.NumGoroutine") = false) (hb : fn.body.isNone = true) (hn : Extern.findNext fn = none) (he : Extern.find fn = some Extern.BytealgCount.count) : ExtR P f extCountString := by
  intro args h v h' e B w0 w c args' H hA
  unfold extCountString at e
  split at e
  · rename_i hh s cb
    cases e
    cases hA with
    | cons h1 t =>
      cases t with
      | cons h2 t =>
        cases t; cases h1; cases h2
        refine ⟨c, w, .int .i64 (Lib.countByte s cb.toNat.toUInt8 : Nat), by rw [run_callFunc_extern hf hname hb hn he, show (⟨[Value.string ⟨⟨s⟩⟩, Value.int .u8 cb]⟩ : Array Value) = #[Value.string ⟨⟨s⟩⟩, Value.int .u8 cb] from rfl, Lib.run_countString]; rfl, Ctx.le_refl c, ?_, H⟩
        have hq : Lib.countByte s cb.toNat.toUInt8 = countByte cb.toNat.toUInt8 s 0 := by
          rw [count_eq, Nat.zero_add]; rfl
        rw [hq]
        exact .int _ _
  · cases e

theorem digits_list : ∀ (n t : Nat) (acc : Array Value), (∀ v ∈ acc.toList, v.oneCell' = true) → ∀ v ∈ (Extern.BytealgMakeNoZero.digits n t acc).toList, v.oneCell' = true
  | 0, _, _, h => h
  | n + 1, t, acc, h => by
    rw [Extern.BytealgMakeNoZero.digits]
    refine digits_list n _ _ fun v hv => ?_
    rw [Array.toList_push, List.mem_append] at hv
    rcases hv with hv | hv
    · exact h v hv
    · rw [List.mem_singleton] at hv; subst hv; rfl
theorem ext_makeNoZero {f : FuncId} {fn : Func} {ps : Array TypeId} {t e : TypeId} (hf : P.funcs[f]? = some fn) (hname : (fn.name == "runtime.NumGoroutine") = false) (hb : fn.body.isNone = true) (hn : Extern.findNext fn = none)
    (he : Extern.find fn = some (Extern.BytealgMakeNoZero.makeNoZero ps #[t])) (ht : P.underlying t = some (.slice e)) : ExtR P f (extMakeNoZero e) := by
  intro args h v h' ee B w0 w c args' H hA
  unfold extMakeNoZero at ee
  split at ee
  · rename_i n
    split at ee
    · rename_i hlt
      cases ee
      cases hA with
      | cons h1 tl =>
        cases tl; cases h1
        have key : ∃ cs : Array Value, (Extern.BytealgMakeNoZero.makeNoZero ps #[t] #[.int .i64 (Int.ofNat n)]).run P w = .ok (.slice (some ⟨w.heap.size, 0, none⟩) n cs.size) (w.drew.drew.alloc (.cells cs e)) ∧ n ≤ cs.size ∧ ∀ v ∈ cs.toList, v.oneCell' = true := by
          have hdef : Extern.BytealgMakeNoZero.makeNoZero ps #[t] #[.int .i64 (Int.ofNat n)] = (bind (underlying t) _ : Sem Value) := rfl
          refine ⟨Extern.BytealgMakeNoZero.digits (grownCap w n 0 e) ((Question.extern "internal/bytealg.MakeNoZero.bytes" 0).cut (w.tape (w.drawn + 1) (.extern "internal/bytealg.MakeNoZero.bytes" 0))) #[], ?_, ?_, digits_list _ _ _ (fun v hv => by simp at hv)⟩
          · rw [hdef]
            have h1 : ¬ (n : Int) < 0 := by omega
            have h2 : ¬ (281474976710656 : Int) < (n : Int) := by omega
            simp [run_underlying ht, h1, h2, Question.forced, newRow, Lib.size_digits, grownCap]
          · rw [Lib.size_digits]
            simpa using grownCap_ge w n 0 e
        obtain ⟨cs, hrun, hge, hone⟩ := key
        have H2 : HR B w0 (c.ext h.next ⟨w.drew.drew.heap.size, 0, cs.size⟩) (h.row e (List.replicate n .unk)) (w.drew.drew.alloc (.cells cs e)) :=
          HR.newRow (w := w.drew.drew) H.drew.drew e (List.replicate n .unk) cs (by simpa using hge) fun i a ha => by
            have hi : i < n := by have := (List.getElem?_eq_some_iff.1 ha).1; simpa using this
            rw [List.getElem?_replicate, if_pos hi] at ha
            cases ha
            have hx : cs[i]? = some (cs[i]'(by omega)) := Array.getElem?_eq_getElem (by omega)
            have h1 := hone (cs[i]'(by omega)) (by simp)
            exact ⟨_, hx, .unk _ h1, h1⟩
        refine ⟨_, _, .slice (some ⟨w.heap.size, 0, none⟩) n cs.size, by rw [run_callFunc_extern hf hname hb hn he, show (⟨[Value.int .i64 (Int.ofNat n)]⟩ : Array Value) = #[Value.int .i64 (Int.ofNat n)] from rfl, hrun]; rfl, Ctx.le_ext (H.fresh _ (Nat.le_refl _)), ?_, H2⟩
        have := VR.slice (c := c.ext h.next ⟨w.heap.size, 0, cs.size⟩) (r := h.next) (off := 0) (len := n) (cap := n) (esz := 1) (ex := false) cs.size (Ctx.ext_same _ _ _) (Nat.le_refl _) hge (by simp) (by show 0 + cs.size * 1 ≤ cs.size; omega)
        simpa using this
    · cases ee
  · cases ee
end
end Go.Ev
