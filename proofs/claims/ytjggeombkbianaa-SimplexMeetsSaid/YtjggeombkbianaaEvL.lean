/-
  The evaluator's append and copy, and the machine's.
-/
import Derived.Test.YtjggeombkbianaaEvK
namespace Go.Ev
open Go Go.RowKit

section
variable {C : Cfg} {P : Program} {B : Kp} {w0 w : World} {c : Ctx} {h : Hp}

/-- A row in a new block that takes an elder row's place: what an append that does not fit leaves. -/
theorem HR.extendNew (H : HR B w0 c h w) {r fam : Nat} {elem0 : TypeId} {cells0 : List AV} {ms : List Nat}
    (hr : h.get r = some (.row elem0 cells0 fam true)) (hms : h.fams.get fam = some ms) (elem : TypeId) {cells : List AV} {vs : List Value} (hc : VRs c cells vs) (h1 : ∀ v ∈ vs, v.oneCell' = true) (rest : List Value) :
    HR B w0 (c.ext h.next ⟨w.heap.size, 0, (vs ++ rest).length⟩) { next := h.next + 1, objs := h.objs.set h.next (.row elem cells fam true), fams := h.fams.set fam (h.next :: ms) } (w.alloc (.cells ⟨vs ++ rest⟩ elem)) := by
  have hle : Ctx.le c (c.ext h.next ⟨w.heap.size, 0, (vs ++ rest).length⟩) := Ctx.le_ext (H.fresh _ (Nat.le_refl _))
  have hget : ∀ i, ({ next := h.next + 1, objs := h.objs.set h.next (.row elem cells fam true), fams := h.fams.set fam (h.next :: ms) } : Hp).get i = if i = h.next then some (.row elem cells fam true) else h.get i := fun i => Tr.get_set _ _ _ _
  have hfam := (H.fam r _ _ _ hr).1
  have notnext : ∀ f ms, h.fams.get f = some ms → ∀ i, i ∈ ms → i ≠ h.next := fun f ms hm i hin e => by
    obtain ⟨M, hM⟩ := H.mem f ms hm i hin
    rw [e, H.fresh _ (Nat.le_refl _)] at hM; cases hM
  have step : ∀ i j, i ≠ h.next → j ≠ h.next → Chain c h i j → Chain (c.ext h.next ⟨w.heap.size, 0, (vs ++ rest).length⟩) { next := h.next + 1, objs := h.objs.set h.next (.row elem cells fam true), fams := h.fams.set fam (h.next :: ms) } i j := fun i j ei ej hch => by
    intro oi oj Li Lj hi hj hl0 hl hci hcj hbk
    rw [hget, if_neg ei] at hi
    rw [hget, if_neg ej] at hj
    simp only [Ctx.ext, if_neg ei] at hci
    simp only [Ctx.ext, if_neg ej] at hcj
    exact hch oi oj Li Lj hi hj hl0 hl hci hcj hbk
  have hlen := hc.length
  refine ⟨H.below.alloc H.hB _, fun k hk => by have := H.hB k hk; simp; omega, fun i hi => ?_, fun i oi hi => ?_, fun i M hM => ?_, fun i M hM => ?_, ?_, ?_, ?_, ?_, ?_, ?_⟩
  · simp only [Ctx.ext]
    rw [if_neg (by simp at hi; omega)]
    exact H.fresh i (by simp at hi; omega)
  · rw [hget] at hi
    split at hi
    · rename_i e; subst e; cases hi
      refine ⟨_, Ctx.ext_same _ _ _, ⟨vs ++ rest⟩, (0, 0), heap_alloc_new _ _, by simp, by simp; omega, fun i a ha => ?_, fun _ => ⟨H.new, fun i _ hh => by simp at hh⟩⟩
      obtain ⟨v, hv, hrv⟩ := hc.get i a ha
      refine ⟨v, ?_, hrv.mono hle, h1 v (List.mem_of_getElem? hv)⟩
      have hlt : i < vs.length := (List.getElem?_eq_some_iff.1 hv).1
      simp only [Nat.zero_add, List.getElem?_toArray]
      rw [List.getElem?_append_left hlt]; exact hv
    · obtain ⟨M, hM, hor⟩ := H.obj i oi hi
      exact ⟨M, hle _ _ hM, hor.keep hle (.inr (heap_alloc_old _ _ _ (H.lt _ _ hM)))⟩
  · simp only [Ctx.ext] at hM
    split at hM
    · cases hM; simp
    · have := H.lt i M hM; simp; omega
  · simp only [Ctx.ext] at hM
    split at hM
    · cases hM; exact H.newA
    · exact H.av i M hM
  · intro i j oi oj Li Lj hi hj hci hcj hij ho hl hb
    rw [hget] at hi hj
    by_cases ei : i = h.next
    · subst ei
      have ej : j ≠ h.next := fun e => hij e.symm
      simp only [Ctx.ext, if_true] at hci
      simp only [Ctx.ext, if_neg ej] at hcj
      cases hci
      have := H.lt _ _ hcj
      simp at hb; omega
    · rw [if_neg ei] at hi
      simp only [Ctx.ext, if_neg ei] at hci
      by_cases ej : j = h.next
      · subst ej
        simp only [Ctx.ext, if_true] at hcj
        cases hcj
        have := H.lt _ _ hci
        simp at hb; omega
      · rw [if_neg ej] at hj
        simp only [Ctx.ext, if_neg ej] at hcj
        exact H.apart i j oi oj Li Lj hi hj hci hcj hij ho hl hb
  · intro i e2 c2 f hi
    rw [hget] at hi
    split at hi
    · rename_i e; subst e; cases hi
      exact ⟨by show fam < h.next + 1; omega, _, by rw [Tr.get_set, if_pos rfl], by simp⟩
    · obtain ⟨hlt, ms', hms', hin⟩ := H.fam i e2 c2 f hi
      refine ⟨by show f < h.next + 1; omega, ?_⟩
      rw [Tr.get_set]
      by_cases hf : f = fam
      · subst hf; rw [hms] at hms'; cases hms'
        exact ⟨_, if_pos rfl, List.mem_cons_of_mem _ hin⟩
      · exact ⟨ms', by rw [if_neg hf]; exact hms', hin⟩
  · intro f ms' hms'
    rw [Tr.get_set] at hms'
    split at hms'
    · rename_i e; subst e; show f < h.next + 1; omega
    · have := H.famlt _ _ hms'; show f < h.next + 1; omega
  · intro f ms' hms'
    rw [Tr.get_set] at hms'
    split at hms'
    · rename_i e; subst e; cases hms'
      refine List.pairwise_cons.2 ⟨fun j hj oi oj Li Lj hi hj' hl0 hl hci hcj hbk => ?_, ?_⟩
      · have ej := notnext _ _ hms j hj
        simp only [Ctx.ext, if_true] at hci; cases hci
        simp only [Ctx.ext, if_neg ej] at hcj
        have := H.lt _ _ hcj
        simp at hbk; omega
      · refine List.Pairwise.imp_of_mem ?_ (H.chain f _ hms)
        intro i j hi hj hch
        exact step i j (notnext _ _ hms i hi) (notnext _ _ hms j hj) hch
    · refine List.Pairwise.imp_of_mem ?_ (H.chain f ms' hms')
      intro i j hi hj hch
      exact step i j (notnext _ _ hms' i hi) (notnext _ _ hms' j hj) hch
  · intro f ms' hms' i hin
    rw [Tr.get_set] at hms'
    split at hms'
    · cases hms'
      simp only [List.mem_cons] at hin
      rcases hin with rfl | hin
      · exact ⟨_, Ctx.ext_same _ _ _⟩
      · obtain ⟨M, hM⟩ := H.mem fam _ hms i hin
        exact ⟨M, hle _ _ hM⟩
    · obtain ⟨M, hM⟩ := H.mem f ms' hms' i hin
      exact ⟨M, hle _ _ hM⟩
  · intro i e2 c2 w2 M hi hM
    rw [hget] at hi
    by_cases ei : i = h.next
    · subst ei
      rw [if_pos rfl] at hi; cases hi
      exact absurd hfam (Nat.lt_irrefl _)
    · rw [if_neg ei] at hi
      simp only [Ctx.ext, if_neg ei] at hM
      exact H.base0 i e2 c2 w2 M hi hM

theorem lenA_run {x : AV} {xv : Value} (hx : VR c x xv) {n : Nat} (e : lenA x = some n) (w : World) : (Builtin.lenOf xv).run P w = .ok n w := by
  cases hx <;> simp [lenA] at e <;> subst e <;> simp [Builtin.lenOf, ByteArray.size]

theorem zero_of {i : TypeInfo} {z : AV} (e : (i.zero).bind ofV = some z) : ∃ v, i.zero = some v ∧ ofV v = some z := by
  cases hz : i.zero with
  | none => simp [hz] at e
  | some v => exact ⟨v, rfl, by simpa [hz] using e⟩

/-- An append that fits. -/
theorem append_fits {ts : Array TypeId} {ty t elem xt : TypeId} {ud : TypeDesc} {i : TypeInfo} (hts0 : ts[0]? = some t) (htu : P.underlying t = some (.slice elem)) (hts1 : ts[1]? = some xt) (hu : P.underlying xt = some ud)
    (hnint : ∀ k, ud = .int k → False) (hi : P.info? elem = some i) {xv : Value} {n : Nat} (hlen : ∀ w : World, (Builtin.lenOf xv).run P w = .ok n w) {vs : List Value} (hf : (Builtin.firstCells i.size n xv).run P w = .ok vs.toArray w)
    (base : Option Addr) (sLen sCap : Nat) (hfit : sLen + n ≤ sCap) {w' : World} (hst : ∀ a, base = some a → (storeCells (a.add (sLen * i.size)) vs 0).run P w = .ok () w') (hnone : base = none → w' = w) :
    (Builtin.append_ ts ty #[.slice base sLen sCap, xv]).run P w = .ok (.slice base (sLen + n) sCap) w' := by
  unfold Builtin.append_
  have e0 : (#[Value.slice base sLen sCap, xv] : Array Value)[0]? = some (Value.slice base sLen sCap) := rfl
  have e1 : (#[Value.slice base sLen sCap, xv] : Array Value)[1]? = some xv := rfl
  simp only [hts0, hts1, e0, e1, Sem.run_bind, run_underlying htu, run_underlying hu, Result.andThen_ok, sizeOf, typeInfo, run_program, hi, Sem.run_pure]
  cases base with
  | none =>
    have := hnone rfl
    subst this
    simp only [Bool.false_eq_true, if_false, Sem.run_bind, hlen, Result.andThen_ok, hfit, if_true, Bool.not_false, hf, Sem.run_pure]
  | some a =>
    have h1 := hst a rfl
    simp only [Bool.false_eq_true, if_false, Sem.run_bind, hlen, Result.andThen_ok, hfit, if_true, Bool.not_false, hf, h1, Sem.run_pure]

/-- An append that does not fit. -/
theorem append_grows {ts : Array TypeId} {ty t elem xt : TypeId} {ud : TypeDesc} {i : TypeInfo} (hts0 : ts[0]? = some t) (htu : P.underlying t = some (.slice elem)) (hts1 : ts[1]? = some xt) (hu : P.underlying xt = some ud)
    (hnint : ∀ k, ud = .int k → False) (hi : P.info? elem = some i) {zv : Value} (hz : i.zero = some zv) {xv : Value} {n : Nat} (hlen : ∀ w : World, (Builtin.lenOf xv).run P w = .ok n w) {vs olds : List Value}
    (hf : (Builtin.firstCells i.size n xv).run P w.drew = .ok vs.toArray w.drew) (base : Option Addr) (sLen sCap : Nat) (hfo : (Builtin.firstCells i.size sLen (.slice base sLen sCap)).run P w.drew = .ok olds.toArray w.drew)
    (hg : sCap < sLen + n) (hb : 0 < i.bytes) (hsm : sLen + n < 2147483648) (h47 : (sLen + n) * i.bytes ≤ 140737488355328) :
    (Builtin.append_ ts ty #[.slice base sLen sCap, xv]).run P w =
      .ok (.slice (some ⟨w.heap.size, 0, none⟩) (sLen + n) (grownCap w (sLen + n) sCap elem))
        (w.drew.alloc (.cells (⟨(olds ++ vs) ++ (Builtin.zeroCells zv.cells (grownCap w (sLen + n) sCap elem - (sLen + n))).toList⟩) elem)) := by
  have hn : ¬ (sLen + n ≤ sCap) := by omega
  have h63' : ¬ (9223372036854775807 < ((sLen : Int) + (n : Int))) := by omega
  have hfit := growslice_fits (need := sLen + n) (old := sCap) (bytes := i.bytes) hg h47
  have h48' : ¬ (281474976710656 < Builtin.nextslicecap (sLen + n) sCap * i.bytes) := by omega
  have hb0 : i.bytes ≠ 0 := by omega
  have harr : ∀ z : Array Value, (⟨(olds ++ vs) ++ z.toList⟩ : Array Value) = olds.toArray ++ vs.toArray ++ z := fun z => by
    apply Array.ext'; simp
  rw [harr]
  have h63'' : ¬ (((sLen + n : Nat) : Int) > IntKind.i64.max ∧ (False ∨ i.bytes = 0)) := fun hh => hb0 (hh.2.resolve_left id)
  have h48'' : ¬ (Builtin.nextslicecap (sLen + n) sCap * i.bytes > 2 ^ 48) := by omega
  unfold Builtin.append_
  have e0 : (#[Value.slice base sLen sCap, xv] : Array Value)[0]? = some (Value.slice base sLen sCap) := rfl
  have e1 : (#[Value.slice base sLen sCap, xv] : Array Value)[1]? = some xv := rfl
  have hch : (choose (.appendCap (sLen + n) sCap elem)).run P w = .ok (grownCap w (sLen + n) sCap elem) w.drew := by
    simp [Question.forced, grownCap]
  simp only [hts0, hts1, e0, e1, Sem.run_bind, run_underlying htu, run_underlying hu, Result.andThen_ok, sizeOf, typeInfo, run_program, hi, Sem.run_pure]
  simp only [Bool.false_eq_true, if_false, Sem.run_bind, hlen, Result.andThen_ok, hn, run_program, hi, Sem.run_pure, h63'', h48'', hch, run_askRoom, hfo, Bool.not_false, if_true, hf, zeroValue, typeInfo, hz, newRow, run_newObj]
  rfl

/-- 'append' of zero values behind nil: a new row. -/
theorem append_zeros {ts : Array TypeId} {ty t elem xt : TypeId} {k kk : IntKind} {i : TypeInfo} (hts0 : ts[0]? = some t) (htu : P.underlying t = some (.slice elem)) (hts1 : ts[1]? = some xt) (hu : P.underlying xt = some (.int k))
    (hi : P.info? elem = some i) {zv : Value} (hz : i.zero = some zv) {n : Nat} (hn : 0 < n) (hsz : 0 < i.size) (_hb : 0 < i.bytes) (hsm : n < 2147483648) (h47 : n * i.bytes ≤ 140737488355328) (w : World) :
    (Builtin.append_ ts ty #[.slice none 0 0, .int kk (Int.ofNat n)]).run P w =
      .ok (.slice (some ⟨w.heap.size, 0, none⟩) n (grownCap w n 0 elem))
        (w.drew.alloc (.cells (⟨(Builtin.zeroCells zv.cells n).toList ++ (Builtin.zeroCells zv.cells (grownCap w n 0 elem - n)).toList⟩) elem)) := by
  have hwr : IntKind.i64.wrap (Int.ofNat n) = (n : Int) := by rw [IntKind.wrap_i64]; simp only [Int.ofNat_eq_natCast]; omega
  have hl0 : ¬ ((n : Int) < 0) := by omega
  have h48 : ¬ ((n : Int) * (i.bytes : Int) > 2 ^ 48) := by
    have : ((n * i.bytes : Nat) : Int) ≤ 140737488355328 := by omega
    rw [Int.natCast_mul] at this
    omega
  have hfit := growslice_fits (need := n) (old := 0) (bytes := i.bytes) (by omega) h47
  have hn0 : ¬ (n ≤ 0) := by omega
  have hns : ¬ (n * i.size = 0) := by have := Nat.mul_pos hn hsz; omega
  have harr : ∀ a b : Array Value, (⟨a.toList ++ b.toList⟩ : Array Value) = #[] ++ a ++ b := fun a b => by apply Array.ext'; simp
  have h63'' : ¬ (((n : Nat) : Int) > IntKind.i64.max ∧ (True ∨ i.bytes = 0)) := fun hh => by
    have h := hh.1
    have : IntKind.i64.max = 9223372036854775807 := by decide
    rw [this] at h
    omega
  have h48'' : ¬ (Builtin.nextslicecap n 0 * i.bytes > 2 ^ 48) := by omega
  have hch : (choose (.appendCap n 0 elem)).run P w = .ok (grownCap w n 0 elem) w.drew := by
    simp [Question.forced, grownCap]
  rw [harr]
  unfold Builtin.append_
  have e0 : (#[Value.slice none 0 0, Value.int kk (Int.ofNat n)] : Array Value)[0]? = some (Value.slice none 0 0) := rfl
  have e1 : (#[Value.slice none 0 0, Value.int kk (Int.ofNat n)] : Array Value)[1]? = some (Value.int kk (Int.ofNat n)) := rfl
  simp only [hts0, hts1, e0, e1, Sem.run_bind, run_underlying htu, run_underlying hu, Result.andThen_ok, sizeOf, typeInfo, run_program, hi, Sem.run_pure]
  simp only [if_true, Sem.run_bind, asInt, asIntOf, Sem.run_pure, Result.andThen_ok, hwr, hl0, if_false, run_program, hi, h48, Int.toNat_natCast, hn0, h63'', h48'', hch, run_askRoom, run_firstCells_none, Bool.not_true, Bool.false_eq_true, hns, zeroValue, typeInfo, hz, newRow, run_newObj, Nat.zero_add]
  try rfl

theorem repeat_one (z : List AV) (h : z.all AV.one = true) : ∀ n, (repeatCells z n).all AV.one = true
  | 0 => rfl
  | n + 1 => by
    simp only [repeatCells, List.all_append, h, repeat_one z h n, Bool.and_self]
theorem slice_new {c : Ctx} {n : Nat} {bl k len cap cap' esz : Nat} (h1 : len ≤ cap) (h2 : cap ≤ cap') (h3 : false = true → cap' = cap) (h4 : cap' * esz ≤ k) :
    VR (c.ext n ⟨bl, 0, k⟩) (.slice n 0 len cap esz false) (.slice (some ⟨bl, 0, none⟩) len cap') := by
  have := VR.slice (c := c.ext n ⟨bl, 0, k⟩) (r := n) (off := 0) (len := len) (cap := cap) (esz := esz) (ex := false) cap' (Ctx.ext_same _ _ _) h1 h2 h3 (by show 0 + cap' * esz ≤ k; omega)
  simpa using this
theorem ofV_size {v : Value} {a : AV} (e : ofV v = some a) : a.cells.length = v.cells.size := by
  cases v with
  | agg cs =>
    obtain ⟨l⟩ := cs
    simp only [ofV, Option.map_eq_some_iff] at e
    obtain ⟨as, h1, rfl⟩ := e
    have := (ofVs_VRs (fun _ => none) l as h1).length
    simpa [AV.cells, Value.cells] using this
  | tuple cs =>
    obtain ⟨l⟩ := cs
    simp only [ofV, Option.map_eq_some_iff] at e
    obtain ⟨as, h1, rfl⟩ := e
    rfl
  | pointer p => cases p <;> simp [ofV] at e; subst e; rfl
  | slice p l k => cases p <;> cases l <;> cases k <;> simp [ofV] at e; subst e; rfl
  | map p => cases p <;> simp [ofV] at e; subst e; rfl
  | bool b => simp [ofV] at e; subst e; rfl
  | int k n => simp [ofV] at e; subst e; rfl
  | string s => simp [ofV] at e; subst e; rfl
  | nilFunc => simp [ofV] at e; subst e; rfl
  | nilIface => simp [ofV] at e; subst e; rfl
  | _ => simp [ofV] at e
theorem zcells {i : TypeInfo} {z : AV} {zv : Value} (hz : (i.zero).bind ofV = some z) (hzv : i.zero = some zv) (h : z.cells.length = i.size) : zv.cells.size = i.size := by
  rw [hzv] at hz
  rw [← h, ofV_size (by simpa using hz)]

theorem aAppend_run (H : HR B w0 c h w) {ts : Array TypeId} {ty : TypeId} {s x a : AV} {sv xv : Value} (hs : VR c s sv) (hx : VR c x xv) {h' : Hp} (e : aAppend P h ts s x = some (a, h')) :
    Val P B w0 c (Builtin.append_ ts ty #[sv, xv]) w a h' := by
  unfold aAppend at e
  split at e
  · rename_i elem xt ht0 ht1
    obtain ⟨t, ht, htu⟩ := Option.bind_eq_some_iff.1 ht0
    have hts0 : ts[0]? = some t := by simpa using ht
    have hts1 : ts[1]? = some xt := by simpa using ht1
    split at e
    · rename_i k i hu hi
      split at e
      · rename_i kk n z hz
        split at e
        · rename_i hc
          cases e
          cases hs
          cases hx
          obtain ⟨zv, hzv, hzo⟩ := zero_of hz
          have hzs : zv.cells.size = i.size := zcells hz hzv hc.2.2.2.1
          have hzc := (ofV_VR c zv z hzo).cells hc.2.2.2.2.1
          have hrun := append_zeros (P := P) (ty := ty) (kk := kk) hts0 htu hts1 hu hi hzv hc.1 hc.2.2.2.2.2.1 hc.2.2.2.2.2.2 hc.2.1 hc.2.2.1 w
          have hrep : VRs c (repeatCells z.cells n) (Builtin.zeroCells zv.cells n).toList := repeat_VRs hzc n _ rfl
          have H' := H.drew.rowOf elem hrep (all_one hrep (repeat_one _ hc.2.2.2.2.1 n)) (Builtin.zeroCells zv.cells (grownCap w n 0 elem - n)).toList
          refine ⟨_, _, _, hrun, Ctx.le_ext (H.fresh _ (Nat.le_refl _)), ?_, H'⟩
          have hg : n ≤ grownCap w n 0 elem := grownCap_ge w n 0 elem
          refine slice_new (Nat.le_refl _) hg (by simp) ?_
          rw [List.length_append, Array.length_toList, Array.length_toList, size_zeroCells, size_zeroCells, hzs, ← Nat.add_mul]
          rw [show n + (grownCap w n 0 elem - n) = grownCap w n 0 elem from by omega]
          exact Nat.le_refl _
        · cases e
      · cases e
    · cases e
    · rename_i ud i n hnint hu hi hn
      have hnint' : ∀ k, ud = .int k → False := fun k hk => hnint k hk
      have hlen := fun w => lenA_run (P := P) hx hn w
      split at e
      · rename_i new z hnew hz
        obtain ⟨zv, hzv, _⟩ := zero_of hz
        split at e
        · rename_i hc
          obtain ⟨vs, hf, hvs, ho⟩ := sliceCells_run (P := P) H hx hnew
          obtain ⟨vsd, hfd, hvsd, hod⟩ := sliceCells_run (P := P) H.drew hx hnew
          have hvl : vs.length = n * i.size := by rw [← hvs.length]; omega
          have hvld : vsd.length = n * i.size := by rw [← hvsd.length]; omega
          split at e
          · -- nil
            cases hs
            split at e
            · rename_i h0
              cases e
              subst h0
              exact Val.pure H ⟨.slice none 0 0, append_fits hts0 htu hts1 hu hnint' hi hlen hf none 0 0 (Nat.le_refl _) (fun a ha => by cases ha) (fun _ => rfl), .nils⟩
            · rename_i h0
              split at e
              · rename_i hsm
                cases e
                have hrun := append_grows (P := P) (w := w) (ty := ty) hts0 htu hts1 hu hnint' hi hzv hlen hfd none 0 0 (olds := []) (run_firstCells_none _ _ _ _ _) (by omega) hc.2.2.2 (by omega) (by simpa using hsm.2)
                have H' := H.drew.rowOf elem hvsd hod (Builtin.zeroCells zv.cells (grownCap w (0 + n) 0 elem - (0 + n))).toList
                simp only [Nat.zero_add] at hrun H'
                refine ⟨_, _, _, hrun, Ctx.le_ext (H.fresh _ (Nat.le_refl _)), ?_, H'⟩
                have hg : n ≤ grownCap w n 0 elem := grownCap_ge w n 0 elem
                refine slice_new (Nat.le_refl _) hg (by simp) ?_
                rw [List.length_append, hvld, Array.length_toList, size_zeroCells, zcells hz hzv hc.2.1, ← Nat.add_mul]
                rw [show n + (grownCap w n 0 elem - n) = grownCap w n 0 elem from by omega]
                exact Nat.le_refl _
              · cases e
          · -- a slice
            rename_i r off len cap esz ex
            split at e
            · rename_i h0
              cases e
              subst h0
              have hvs0 : vs = [] := List.eq_nil_of_length_eq_zero (by omega)
              subst hvs0
              cases hs with
              | slice cap' hL h1 h2 h3 h4 =>
                rename_i L
                exact Val.pure H ⟨_, append_fits hts0 htu hts1 hu hnint' hi hlen hf _ len cap' (by omega) (w' := w) (fun a _ => rfl) (fun _ => rfl), .slice cap' hL h1 h2 h3 h4⟩
            · rename_i h0
              split at e
              · cases e
              · rename_i hesz
                have hesz' : esz = i.size := Decidable.not_not.1 hesz
                subst hesz'
                cases hs with
                | slice cap' hL h1 h2 h3 h4 =>
                  rename_i L
                  split at e
                  · -- it fits for sure
                    rename_i hfit
                    simp only [Option.map_eq_some_iff] at e
                    obtain ⟨h2', hw, he⟩ := e
                    cases he
                    obtain ⟨w', hst, H'⟩ := H.write (P := P) hw hvs ho hL
                    refine ⟨c, w', _, append_fits hts0 htu hts1 hu hnint' hi hlen hf _ len cap' (by omega) (w' := w') (fun a ha => ?_) (fun ha => by cases ha), Ctx.le_refl c, .slice cap' hL hfit h2 h3 h4, H'⟩
                    cases ha
                    rw [add_spot, Nat.add_assoc]; exact hst
                  · rename_i hfit
                    split at e
                    · rename_i hsm
                      split at e
                      · rename_i elem' cells fam wr hr
                        split at e
                        · rename_i hel
                          obtain ⟨hel, hcl⟩ := hel
                          subst hel
                          obtain ⟨L2, hL2, cs, fz, hbk, hszc, hle, hcc, hww⟩ := H.obj _ _ hr
                          rw [hL] at hL2; cases hL2
                          obtain ⟨olds, holds, hoo, hocell⟩ := H.drew.cells hr hL off (len * i.size) hcl
                          have hol : olds.length = len * i.size := by rw [← holds.length]; simp; omega
                          have hfo : (Builtin.firstCells i.size len (.slice (some ⟨L.blk, L.base + off, none⟩) len cap')).run P w.drew = .ok olds.toArray w.drew := run_firstCells_some w.drew i.size len _ _ _ olds hol hocell
                          have hall := holds.append hvsd
                          have halo : ∀ v ∈ olds ++ vsd, v.oneCell' = true := fun v hv => by
                            rcases List.mem_append.1 hv with hv | hv
                            · exact hoo v hv
                            · exact hod v hv
                          have grow : cap' < len + n → ∀ h' : Hp, (∀ rest : List Value, HR B w0 (c.ext h.next ⟨w.drew.heap.size, 0, ((olds ++ vsd) ++ rest).length⟩) h' (w.drew.alloc (.cells ⟨(olds ++ vsd) ++ rest⟩ elem'))) →
                              Val P B w0 c (Builtin.append_ ts ty #[.slice (some ⟨L.blk, L.base + off, none⟩) len cap', xv]) w (.slice h.next 0 (len + n) (len + n) i.size false) h' := fun hlt h' hH => by
                            have hrun := append_grows (P := P) (w := w) (ty := ty) hts0 htu hts1 hu hnint' hi hzv hlen hfd (some ⟨L.blk, L.base + off, none⟩) len cap' hfo hlt hc.2.2.2 hsm.1 hsm.2
                            refine ⟨_, _, _, hrun, Ctx.le_ext (H.fresh _ (Nat.le_refl _)), ?_, hH _⟩
                            have hg : len + n ≤ grownCap w (len + n) cap' elem' := grownCap_ge w (len + n) cap' elem'
                            refine slice_new (Nat.le_refl _) hg (by simp) ?_
                            rw [List.length_append, List.length_append, hol, hvld, Array.length_toList, size_zeroCells, zcells hz hzv hc.2.1, ← Nat.add_mul, ← Nat.add_mul]
                            rw [show len + n + (grownCap w (len + n) cap' elem' - (len + n)) = grownCap w (len + n) cap' elem' from by omega]
                            exact Nat.le_refl _
                          split at e
                          · rename_i hex
                            cases e
                            have hcc' := h3 hex
                            exact grow (by omega) _ (fun rest => H.drew.rowOf elem' hall halo rest)
                          · rename_i hex
                            split at e
                            · rename_i ms hms
                              split at e
                              · rename_i htip
                                cases e
                                obtain ⟨tl, htl⟩ : ∃ tl, ms = r :: tl := by
                                  cases ms with
                                  | nil => simp at htip
                                  | cons x tl => simp at htip; exact ⟨tl, by rw [htip.2]⟩
                                subst htl
                                have hdrop : (cells.drop off).take (len * i.size) = cells.drop off := List.take_of_length_le (by simp; omega)
                                by_cases hin : len + n ≤ cap'
                                · -- there was room
                                  have hroom : off + (len + n) * i.size ≤ L.lim := Nat.le_trans (Nat.add_le_add_left (Nat.mul_le_mul_right _ hin) _) h4
                                  have hnl : new.length = n * i.size := hc.1.symm
                                  obtain ⟨w', hst, H'⟩ := H.extend (P := P) hr hms hL (off := off) (by omega) hvs ho (by rw [hnl]; rw [Nat.add_mul] at hroom; omega)
                                  rw [hdrop]
                                  refine ⟨_, w', _, append_fits hts0 htu hts1 hu hnint' hi hlen hf _ len cap' hin (w' := w') (fun a ha => ?_) (fun ha => by cases ha), Ctx.le_ext (H.fresh _ (Nat.le_refl _)), ?_, H'⟩
                                  · cases ha
                                    rw [add_spot, Nat.add_assoc, htip.1]; exact hst
                                  · have := VR.slice (c := c.ext h.next ⟨L.blk, L.base + off, L.lim - off⟩) (r := h.next) (off := 0) (len := len + n) (cap := len + n) (esz := i.size) (ex := false) cap' (Ctx.ext_same _ _ _) (Nat.le_refl _) hin (by simp) (by show 0 + cap' * i.size ≤ L.lim - off; omega)
                                    simpa using this
                                · exact grow (by omega) _ (fun rest => H.drew.extendNew hr hms elem' hall halo rest)
                              · cases e
                            · cases e
                        · cases e
                      · cases e
                    · cases e
          · cases e
        · cases e
      · cases e
    · cases e
  · cases e

theorem aCopy_run (H : HR B w0 c h w) {ts : Array TypeId} {ty : TypeId} {d x a : AV} {dv xv : Value} (hd : VR c d dv) (hx : VR c x xv) {h' : Hp} (e : aCopy P h ts d x = some (a, h')) :
    Val P B w0 c (Builtin.copy_ ts ty #[dv, xv]) w a h' := by
  unfold aCopy at e
  split at e
  · rename_i elem m ht0 hm
    obtain ⟨t, ht, htu⟩ := Option.bind_eq_some_iff.1 ht0
    have hts0 : ts[0]? = some t := by simpa using ht
    have hlen := lenA_run (P := P) hx hm w
    have e0 : (#[dv, xv] : Array Value)[0]? = some dv := rfl
    have e1 : (#[dv, xv] : Array Value)[1]? = some xv := rfl
    split at e
    · rename_i size hs
      split at e
      · cases e
        cases hd
        refine Val.pure H ⟨.int .i64 0, ?_, .int _ _⟩
        have hm0 : Nat.min m 0 = 0 := by simp
        have hf : (Builtin.firstCells size 0 xv).run P w = .ok #[] w := by
          cases hx <;> simp [lenA] at hm <;> simp [Builtin.firstCells, loadCells, loadCellsFrom]
        simp only [Builtin.copy_, hts0, e0, e1, Sem.run_bind, run_underlying htu, Result.andThen_ok, hlen, hm0, sizeB_run hs, hf]
        rfl
      · cases e
        cases hd with
        | esl ad cap =>
          refine Val.pure H ⟨.int .i64 0, ?_, .int _ _⟩
          have hm0 : Nat.min m 0 = 0 := by simp
          have hf : (Builtin.firstCells size 0 xv).run P w = .ok #[] w := by
            cases hx <;> simp [lenA] at hm <;> simp [Builtin.firstCells, loadCells, loadCellsFrom]
          simp only [Builtin.copy_, hts0, e0, e1, Sem.run_bind, run_underlying htu, Result.andThen_ok, hlen, hm0, sizeB_run hs, hf]
          rfl
      · rename_i r off len cap esz ex
        split at e
        · cases e
        · rename_i hesz
          have hesz' : esz = size := Decidable.not_not.1 hesz
          subst hesz'
          simp only at e
          split at e
          · rename_i new hnew
            split at e
            · rename_i hnl
              cases hd with
              | slice cap' hL h1 h2 h3 h4 =>
                rename_i L
                obtain ⟨vs, hf, hvs, ho⟩ := sliceCells_run (P := P) H hx hnew
                have base : ∀ w', (storeCells ⟨L.blk, L.base + off, none⟩ vs 0).run P w = .ok () w' →
                    (Builtin.copy_ ts ty #[.slice (some ⟨L.blk, L.base + off, none⟩) len cap', xv]).run P w = .ok (.int .i64 (Int.ofNat (Nat.min m len))) w' := fun w' hst => by
                  simp only [Builtin.copy_, hts0, e0, e1, Sem.run_bind, run_underlying htu, Result.andThen_ok, hlen, sizeB_run hs, hf, hst]
                  rfl
                split at e
                · rename_i h0
                  cases e
                  have hvs0 : vs = [] := List.eq_nil_of_length_eq_zero (by rw [← hvs.length]; omega)
                  subst hvs0
                  exact Val.pure H ⟨_, base w rfl, .int _ _⟩
                · rename_i h0
                  simp only [Option.map_eq_some_iff] at e
                  obtain ⟨h2', hw, he⟩ := e
                  cases he
                  obtain ⟨w', hst, H'⟩ := H.write (P := P) hw hvs ho hL
                  exact ⟨c, w', _, base w' hst, Ctx.le_refl c, .int _ _, H'⟩
            · cases e
          · cases e
      · cases e
    · cases e
  · cases e

theorem aClear_run (H : HR B w0 c h w) {ts : Array TypeId} {ty : TypeId} {x a : AV} {xv : Value} (hx : VR c x xv) {h' : Hp} (e : aClear P h ts x = some (a, h')) :
    Val P B w0 c (Builtin.clear_ ts ty #[xv]) w a h' := by
  unfold aClear at e
  split at e
  · rename_i elem ht0
    obtain ⟨t, ht, htu⟩ := Option.bind_eq_some_iff.1 ht0
    have hts0 : ts[0]? = some t := by simpa using ht
    have e0 : (#[xv] : Array Value)[0]? = some xv := rfl
    split at e
    · cases e
      cases hx
      exact Val.pure H ⟨.tuple #[], by simp only [Builtin.clear_, hts0, e0, Sem.run_bind, run_underlying htu, Result.andThen_ok]; rfl, .tup .nil⟩
    · cases e
      cases hx with
      | esl ad cap => exact Val.pure H ⟨.tuple #[], by simp only [Builtin.clear_, hts0, e0, Sem.run_bind, run_underlying htu, Result.andThen_ok]; rfl, .tup .nil⟩
    · rename_i r off len cap esz ex
      split at e
      · rename_i z size hz hs
        split at e
        · rename_i hc
          cases hx with
          | slice cap' hL h1 h2 h3 h4 =>
            rename_i L
            split at e
            · rename_i h0
              cases e
              subst h0
              exact Val.pure H ⟨.tuple #[], by simp only [Builtin.clear_, hts0, e0, Sem.run_bind, run_underlying htu, Result.andThen_ok]; rfl, .tup .nil⟩
            · rename_i h0
              simp only [Option.map_eq_some_iff] at e
              obtain ⟨h2', hw, he⟩ := e
              cases he
              obtain ⟨v, hv, ho⟩ := zeroB_run hz w
              have hzv := (ofV_VR c v z ho).cells hc.2.1
              have hrep := repeat_VRs hzv len (len * v.cells.size) rfl
              have hone : (repeatCells z.cells len).all AV.one = true := by
                rw [List.all_eq_true]
                intro x hx
                obtain ⟨j, hj⟩ := List.getElem?_of_mem hx
                have hlt : j < len * z.cells.length := by have := (List.getElem?_eq_some_iff.1 hj).1; rwa [repeat_length] at this
                rw [repeat_get _ _ _ hlt] at hj
                exact List.all_eq_true.1 hc.2.1 x (List.mem_of_getElem? hj)
              obtain ⟨w', hst, H'⟩ := H.write (P := P) hw hrep (all_one hrep hone) hL
              obtain ⟨len', rfl⟩ : ∃ k, len = k + 1 := ⟨len - 1, by omega⟩
              refine ⟨c, w', .tuple #[], ?_, Ctx.le_refl c, .tup .nil, H'⟩
              simp only [Builtin.clear_, hts0, e0, Sem.run_bind, run_underlying htu, Result.andThen_ok, hv]
              have hzc : (Builtin.zeroCells v.cells (len' + 1)).toList = ((Array.range ((len' + 1) * v.cells.size)).map (fun i => v.cells[i % v.cells.size]!)).toList := rfl
              simp only [hzc, hst, Result.andThen_ok]
              rfl
        · cases e
      · cases e
    · cases e
  · cases e

theorem aLen_run (H : HR B w0 c h w) {ts : Array TypeId} {ty : TypeId} {x a : AV} {xv : Value} (hx : VR c x xv) (e : aLen P h ts x = some a) :
    ∃ u, (Builtin.len_ ts ty #[xv]).run P w = .ok u w ∧ VR c a u := by
  have e0 : (#[xv] : Array Value)[0]? = some xv := rfl
  unfold aLen at e
  split at e
  · rename_i s ht0
    obtain ⟨t, ht, htu⟩ := Option.bind_eq_some_iff.1 ht0
    have hts0 : ts[0]? = some t := by simpa using ht
    cases e; cases hx
    exact ⟨.int .i64 (Int.ofNat s.length), by simp only [Builtin.len_, hts0, e0, Sem.run_bind, run_underlying htu, Result.andThen_ok]; rfl, .int _ _⟩
  · rename_i n el ht0
    obtain ⟨t, ht, htu⟩ := Option.bind_eq_some_iff.1 ht0
    have hts0 : ts[0]? = some t := by simpa using ht
    cases e
    exact ⟨.int .i64 (Int.ofNat n), by simp only [Builtin.len_, hts0, e0, Sem.run_bind, run_underlying htu, Result.andThen_ok]; rfl, .int _ _⟩
  · rename_i el ht0
    obtain ⟨t, ht, htu⟩ := Option.bind_eq_some_iff.1 ht0
    have hts0 : ts[0]? = some t := by simpa using ht
    cases e; cases hx
    exact ⟨.int .i64 0, by simp only [Builtin.len_, hts0, e0, Sem.run_bind, run_underlying htu, Result.andThen_ok]; rfl, .int _ _⟩
  · rename_i el ht0
    obtain ⟨t, ht, htu⟩ := Option.bind_eq_some_iff.1 ht0
    have hts0 : ts[0]? = some t := by simpa using ht
    cases e
    cases hx with
    | esl ad cap => exact ⟨.int .i64 0, by simp only [Builtin.len_, hts0, e0, Sem.run_bind, run_underlying htu, Result.andThen_ok]; rfl, .int _ _⟩
  · rename_i el r off len cap esz ex ht0
    obtain ⟨t, ht, htu⟩ := Option.bind_eq_some_iff.1 ht0
    have hts0 : ts[0]? = some t := by simpa using ht
    cases e
    cases hx with
    | slice cap' hL h1 h2 h3 h4 => exact ⟨.int .i64 (Int.ofNat len), by simp only [Builtin.len_, hts0, e0, Sem.run_bind, run_underlying htu, Result.andThen_ok]; rfl, .int _ _⟩
  · rename_i k el ht0
    obtain ⟨t, ht, htu⟩ := Option.bind_eq_some_iff.1 ht0
    have hts0 : ts[0]? = some t := by simpa using ht
    cases e; cases hx
    exact ⟨.int .i64 0, by simp only [Builtin.len_, hts0, e0, Sem.run_bind, run_underlying htu, Result.andThen_ok]; rfl, .int _ _⟩
  · rename_i k el r ht0
    obtain ⟨t, ht, htu⟩ := Option.bind_eq_some_iff.1 ht0
    have hts0 : ts[0]? = some t := by simpa using ht
    split at e
    · rename_i es clock hr
      cases e
      cases hx with
      | map hL =>
        rename_i L
        obtain ⟨L2, hL2, es', hb, hB, hes⟩ := H.obj _ _ hr
        rw [hL] at hL2; cases hL2
        have hlen : es'.size = es.length := by have := hes.length; simpa using this.symm
        have hget : (getObj L.blk).run P w = .ok (.map es' clock) w := by simp [getObj, Sem.run, hb]
        exact ⟨.int .i64 (Int.ofNat es.length), by simp only [Builtin.len_, hts0, e0, Sem.run_bind, run_underlying htu, Result.andThen_ok, hget, ← hlen]; rfl, .int _ _⟩
    · cases e
  · cases e

theorem aCap_run {ts : Array TypeId} {ty : TypeId} {x a : AV} {xv : Value} (hx : VR c x xv) (e : aCap P ts x = some a) (w : World) :
    ∃ u, (Builtin.cap_ ts ty #[xv]).run P w = .ok u w ∧ VR c a u := by
  have e0 : (#[xv] : Array Value)[0]? = some xv := rfl
  unfold aCap at e
  split at e
  · rename_i el ht0
    obtain ⟨t, ht, htu⟩ := Option.bind_eq_some_iff.1 ht0
    have hts0 : ts[0]? = some t := by simpa using ht
    cases e; cases hx
    exact ⟨.int .i64 0, by simp only [Builtin.cap_, hts0, e0, Sem.run_bind, run_underlying htu, Result.andThen_ok]; rfl, .int _ _⟩
  · rename_i el r off len cap esz ht0
    obtain ⟨t, ht, htu⟩ := Option.bind_eq_some_iff.1 ht0
    have hts0 : ts[0]? = some t := by simpa using ht
    cases e
    cases hx with
    | slice cap' hL h1 h2 h3 h4 =>
      have := h3 rfl
      subst this
      exact ⟨.int .i64 (Int.ofNat cap'), by simp only [Builtin.cap_, hts0, e0, Sem.run_bind, run_underlying htu, Result.andThen_ok]; rfl, .int _ _⟩
  · cases e
end
end Go.Ev
