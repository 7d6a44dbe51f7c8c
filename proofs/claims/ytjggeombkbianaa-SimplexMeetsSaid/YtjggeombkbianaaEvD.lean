/-
  The evaluator's memory and the machine's: what is related, and that it stays related behind a draw, a new block, a store, a freeze.
-/
import Derived.Test.YtjggeombkbianaaEvC
namespace Go.Ev
open Go Go.RowKit

inductive ESR (c : Ctx) : List (AV × AV × Nat) → List MapEntry → Prop
  | nil : ESR c [] []
  | cons {k v : AV} {b : Nat} {e : MapEntry} {es : List (AV × AV × Nat)} {es' : List MapEntry} (hk : VR c k e.key) (hv : VR c v e.val) (hb : e.born = b) (t : ESR c es es') : ESR c ((k, v, b) :: es) (e :: es')
theorem ESR.mono {c d : Ctx} (hcd : Ctx.le c d) : ∀ {a : List (AV × AV × Nat)} {v : List MapEntry}, ESR c a v → ESR d a v
  | _, _, .nil => .nil
  | _, _, .cons hk hv hb t => .cons (hk.mono hcd) (hv.mono hcd) hb (t.mono hcd)

theorem ESR.length {c : Ctx} : ∀ {a : List (AV × AV × Nat)} {v : List MapEntry}, ESR c a v → a.length = v.length
  | _, _, .nil => rfl
  | _, _, .cons _ _ _ t => by simp [t.length]

noncomputable def tmf (tm : Tr AV) : Nat → AV := fun t => (tm.get t).getD .undef
/-- The temporaries. -/
structure TR (c : Ctx) (f : Nat → AV) (tmps : Array Value) (n : Nat) : Prop where
  size : tmps.size = n
  val : ∀ t, t < n → ∃ v, tmps[t]? = some v ∧ VR c (f t) v
  out : ∀ t, n ≤ t → f t = .undef
theorem TR.mono {c d : Ctx} (hcd : Ctx.le c d) {f : Nat → AV} {tmps : Array Value} {n : Nat} (h : TR c f tmps n) : TR d f tmps n :=
  ⟨h.size, fun t ht => let ⟨v, hv, hr⟩ := h.val t ht; ⟨v, hv, hr.mono hcd⟩, h.out⟩
theorem VR.undef (c : Ctx) : VR c .undef Go.undef := .tup .nil
theorem TR.getD {c : Ctx} {f : Nat → AV} {tmps : Array Value} {n : Nat} (h : TR c f tmps n) (t : Nat) : VR c (f t) (tmps.getD t Go.undef) := by
  by_cases ht : t < n
  · obtain ⟨v, hv, hr⟩ := h.val t ht
    rw [Array.getD_eq_getD_getElem?, hv]; exact hr
  · rw [h.out t (by omega)]
    have : tmps[t]? = none := Array.getElem?_eq_none (by rw [h.size]; omega)
    rw [Array.getD_eq_getD_getElem?, this]; exact VR.undef c

noncomputable def OR (c : Ctx) (B : Kp) (w : World) : AObj → Loc → Prop
  | .row elem cells _ wr, L => ∃ cs fz, w.heap[L.blk]? = some (.cells cs elem fz) ∧ cs.size = L.base + L.lim ∧ cells.length ≤ L.lim ∧
      (∀ i a, cells[i]? = some a → ∃ v, cs[L.base + i]? = some v ∧ VR c a v ∧ v.oneCell' = true) ∧
      (wr = true → ¬ B.keep L.blk ∧ ∀ i, i < cs.size → ¬ (fz.1 ≤ i ∧ i < fz.2))
  | .map es clock, L => ∃ es', w.heap[L.blk]? = some (.map es' clock) ∧ ¬ B.keep L.blk ∧ ESR c es es'.toList
  | .loop st pend tm n ps assign body d, L => ∃ r Ld, w.heap[L.blk]? = some (.loop r) ∧ ¬ B.keep L.blk ∧ r.state = st ∧ r.pending = pend ∧ TR c (tmf tm) r.tmps n ∧
      r.params.toList = ps ∧ r.assign = assign ∧ r.body = body ∧ c d = some Ld ∧ r.defers = Ld.blk
  | .dfr, L => w.heap[L.blk]? = some (.deferred (some [])) ∧ ¬ B.keep L.blk
  | .dead, _ => True

theorem OR.keep {c d : Ctx} (hcd : Ctx.le c d) {B : Kp} {w w' : World} {o : AObj} {L : Loc} (h : OR c B w o L) (hw : o = .dead ∨ w'.heap[L.blk]? = w.heap[L.blk]?) : OR d B w' o L := by
  rcases hw with rfl | hw
  · trivial
  cases o with
  | row elem cells fam wr =>
    obtain ⟨cs, fz, h1, h2, h3, h4, h5⟩ := h
    exact ⟨cs, fz, hw.trans h1, h2, h3, fun i a ha => let ⟨v, hv, hr, ho⟩ := h4 i a ha; ⟨v, hv, hr.mono hcd, ho⟩, h5⟩
  | map es clock =>
    obtain ⟨es', h1, h2, h3⟩ := h
    exact ⟨es', hw.trans h1, h2, h3.mono hcd⟩
  | loop st pend tm n ps assign body dd =>
    obtain ⟨r, Ld, h1, h2, h3, h4, h5, h6, h7, h8, h9, h10⟩ := h
    exact ⟨r, Ld, hw.trans h1, h2, h3, h4, h5.mono hcd, h6, h7, h8, hcd _ _ h9, h10⟩
  | dfr => exact ⟨hw.trans h.1, h.2⟩
  | dead => trivial

noncomputable def AObj.owned : AObj → Bool
  | .row _ _ _ wr => wr
  | .dead => false
  | _ => true
noncomputable def AObj.live : AObj → Bool
  | .dead => false
  | _ => true
noncomputable def AObj.kin : AObj → AObj → Prop
  | .row _ _ f true, .row _ _ g true => f = g
  | _, _ => False
noncomputable def AObj.len : AObj → Nat
  | .row _ cells _ _ => cells.length
  | _ => 0

/-- Of two rows of one family the later one reaches at least as far. -/
def Chain (c : Ctx) (h : Hp) (i j : Nat) : Prop :=
  ∀ oi oj Li Lj, h.get i = some oi → h.get j = some oj → oi.live = true → oj.live = true → c i = some Li → c j = some Lj → Li.blk = Lj.blk → Lj.base + oj.len ≤ Li.base + oi.len

structure HR (B : Kp) (w0 : World) (c : Ctx) (h : Hp) (w : World) : Prop where
  below : Keep B.keep w0 w
  hB : ∀ k, B.keep k → k < w.heap.size
  fresh : ∀ i, h.next ≤ i → c i = none
  obj : ∀ i o, h.get i = some o → ∃ L, c i = some L ∧ OR c B w o L
  lt : ∀ i L, c i = some L → L.blk < w.heap.size
  av : ∀ i L, c i = some L → ¬ B.avoid L.blk
  apart : ∀ i j oi oj Li Lj, h.get i = some oi → h.get j = some oj → c i = some Li → c j = some Lj → i ≠ j → oi.owned = true → oj.live = true → Li.blk = Lj.blk → oi.kin oj
  fam : ∀ i elem cells f, h.get i = some (.row elem cells f true) → f < h.next ∧ ∃ ms, h.fams.get f = some ms ∧ i ∈ ms
  famlt : ∀ f ms, h.fams.get f = some ms → f < h.next
  chain : ∀ f ms, h.fams.get f = some ms → ms.Pairwise (Chain c h)
  mem : ∀ f ms, h.fams.get f = some ms → ∀ i, i ∈ ms → ∃ M, c i = some M
  base0 : ∀ i elem cells wr L, h.get i = some (.row elem cells i wr) → c i = some L → L.base = 0

section
variable {B : Kp} {w0 w : World} {c : Ctx} {h : Hp}

theorem HR.drew (H : HR B w0 c h w) : HR B w0 c h { w with drawn := w.drawn + 1 } :=
  ⟨H.below.drew, H.hB, H.fresh, H.obj, H.lt, H.av, H.apart, H.fam, H.famlt, H.chain, H.mem, H.base0⟩

/-- The next block is new. -/
theorem HR.new (H : HR B w0 c h w) : ¬ B.keep w.heap.size := fun hk => Nat.lt_irrefl _ (H.hB _ hk)
theorem HR.newA (H : HR B w0 c h w) : ¬ B.avoid w.heap.size := fun hk => H.new (B.sub _ hk)

theorem HR.ids (H : HR B w0 c h w) {i : Nat} {o : AObj} (hi : h.get i = some o) : i < h.next := by
  obtain ⟨L, hL, _⟩ := H.obj i o hi
  rcases Nat.lt_or_ge i h.next with hlt | hge
  · exact hlt
  · rw [H.fresh i hge] at hL; cases hL

theorem heap_alloc_old' (w : World) (o : Obj) (i : Nat) (h : i < w.heap.size) : (w.alloc o).heap[i]? = w.heap[i]? := heap_alloc_old w o i h
theorem heap_alloc_new' (w : World) (o : Obj) : (w.alloc o).heap[w.heap.size]? = some o := heap_alloc_new w o

/-- A new object in a new block. -/
theorem HR.alloc (H : HR B w0 c h w) (o : AObj) (O : Obj) (L : Loc) (fams' : Tr (List Nat)) (hL : L.blk = w.heap.size)
    (hO : OR (c.ext h.next L) B (w.alloc O) o L)
    (hf : ∀ f ms, fams'.get f = some ms → (h.fams.get f = some ms ∧ f ≠ h.next) ∨ (f = h.next ∧ ms = [h.next]))
    (hf' : ∀ f ms, h.fams.get f = some ms → fams'.get f = some ms)
    (hr : ∀ elem cells f, o = .row elem cells f true → f = h.next ∧ fams'.get h.next = some [h.next]) (hb0 : ∀ elem cells wr, o = .row elem cells h.next wr → L.base = 0) :
    HR B w0 (c.ext h.next L) { next := h.next + 1, objs := h.objs.set h.next o, fams := fams' } (w.alloc O) := by
  have hle : Ctx.le c (c.ext h.next L) := Ctx.le_ext (H.fresh _ (Nat.le_refl _))
  have hget : ∀ i, ({ next := h.next + 1, objs := h.objs.set h.next o, fams := fams' } : Hp).get i = if i = h.next then some o else h.get i := fun i => Tr.get_set _ _ _ _
  have hold : ∀ i oi, h.get i = some oi → i ≠ h.next := fun i oi hi => by have := H.ids hi; omega
  refine ⟨H.below.alloc H.hB O, fun k hk => by have := H.hB k hk; simp; omega, fun i hi => ?_, fun i oi hi => ?_, fun i M hM => ?_, fun i M hM => ?_, ?_, ?_, ?_, ?_, ?_, ?_⟩
  · simp only [Ctx.ext]
    rw [if_neg (by simp at hi; omega)]
    exact H.fresh i (by simp at hi; omega)
  · rw [hget] at hi
    split at hi
    · rename_i e; subst e; cases hi; exact ⟨L, Ctx.ext_same _ _ _, hO⟩
    · obtain ⟨M, hM, hor⟩ := H.obj i oi hi
      exact ⟨M, hle _ _ hM, hor.keep hle (.inr (heap_alloc_old _ _ _ (H.lt _ _ hM)))⟩
  · simp only [Ctx.ext] at hM
    split at hM
    · cases hM; rw [hL]; simp
    · have := H.lt i M hM; simp; omega
  · simp only [Ctx.ext] at hM
    split at hM
    · cases hM; rw [hL]; exact H.newA
    · exact H.av i M hM
  · intro i j oi oj Li Lj hi hj hci hcj hij ho hl hb
    rw [hget] at hi hj
    by_cases ei : i = h.next
    · subst ei
      have ej : j ≠ h.next := fun e => hij e.symm
      rw [if_neg ej] at hj
      simp only [Ctx.ext, if_true] at hci
      simp only [Ctx.ext, if_neg ej] at hcj
      cases hci
      have := H.lt _ _ hcj
      omega
    · rw [if_neg ei] at hi
      simp only [Ctx.ext, if_neg ei] at hci
      by_cases ej : j = h.next
      · subst ej
        simp only [Ctx.ext, if_true] at hcj
        cases hcj
        have := H.lt _ _ hci
        omega
      · rw [if_neg ej] at hj
        simp only [Ctx.ext, if_neg ej] at hcj
        exact H.apart i j oi oj Li Lj hi hj hci hcj hij ho hl hb
  · intro i elem cells f hi
    rw [hget] at hi
    split at hi
    · rename_i e; subst e
      cases hi
      obtain ⟨rfl, hg⟩ := hr _ _ _ rfl
      exact ⟨Nat.lt_succ_self _, _, hg, by simp⟩
    · obtain ⟨hlt, ms, hms, hin⟩ := H.fam i elem cells f hi
      exact ⟨by show f < h.next + 1; omega, ms, hf' _ _ hms, hin⟩
  · intro f ms hms
    rcases hf f ms hms with ⟨hms', _⟩ | ⟨rfl, _⟩
    · have := H.famlt _ _ hms'; show f < h.next + 1; omega
    · exact Nat.lt_succ_self _
  · intro f ms hms
    rcases hf f ms hms with ⟨hms', _⟩ | ⟨rfl, rfl⟩
    · refine (H.chain f ms hms').imp ?_
      intro i j hch oi oj Li Lj hi hj hl0 hl hci hcj hb
      rw [hget] at hi hj
      by_cases ei : i = h.next
      · subst ei
        simp only [Ctx.ext, if_true] at hci
        by_cases ej : j = h.next
        · subst ej
          simp only [Ctx.ext, if_true] at hcj
          cases hci; cases hcj
          rw [if_pos rfl] at hi hj
          cases hi; cases hj; exact Nat.le_refl _
        · simp only [Ctx.ext, if_neg ej] at hcj
          cases hci
          have := H.lt _ _ hcj
          omega
      · rw [if_neg ei] at hi
        simp only [Ctx.ext, if_neg ei] at hci
        by_cases ej : j = h.next
        · subst ej
          simp only [Ctx.ext, if_true] at hcj
          cases hcj
          have := H.lt _ _ hci
          omega
        · rw [if_neg ej] at hj
          simp only [Ctx.ext, if_neg ej] at hcj
          exact hch oi oj Li Lj hi hj hl0 hl hci hcj hb
    · simp
  · intro f ms hms i hin
    rcases hf f ms hms with ⟨hms', _⟩ | ⟨rfl, rfl⟩
    · obtain ⟨M, hM⟩ := H.mem f ms hms' i hin
      exact ⟨M, hle _ _ hM⟩
    · simp at hin; subst hin; exact ⟨L, Ctx.ext_same _ _ _⟩
  · intro i e2 c2 w2 M hi hM
    rw [hget] at hi
    by_cases ei : i = h.next
    · subst ei
      rw [if_pos rfl] at hi; cases hi
      simp only [Ctx.ext, if_true] at hM; cases hM
      exact hb0 _ _ _ rfl
    · rw [if_neg ei] at hi
      simp only [Ctx.ext, if_neg ei] at hM
      exact H.base0 i e2 c2 w2 M hi hM

/-- A new row of its own. -/
theorem HR.newRowFz (H : HR B w0 c h w) (elem : TypeId) (cells : List AV) (cs : Array Value) (fz : Nat × Nat) (hfz : ∀ i, i < cs.size → ¬ (fz.1 ≤ i ∧ i < fz.2)) (hlen : cells.length ≤ cs.size)
    (hc : ∀ (i : Nat) (a : AV), cells[i]? = some a → ∃ v : Value, cs[i]? = some v ∧ VR c a v ∧ v.oneCell' = true) :
    HR B w0 (c.ext h.next ⟨w.heap.size, 0, cs.size⟩) (h.row elem cells) (w.alloc (.cells cs elem fz)) := by
  have hle : Ctx.le c (c.ext h.next ⟨w.heap.size, 0, cs.size⟩) := Ctx.le_ext (H.fresh _ (Nat.le_refl _))
  refine H.alloc (.row elem cells h.next true) (.cells cs elem fz) ⟨w.heap.size, 0, cs.size⟩ _ rfl ?_ ?_ ?_ ?_ (fun _ _ _ _ => rfl)
  · refine ⟨cs, fz, heap_alloc_new _ _, by simp, hlen, fun i a ha => ?_, fun _ => ⟨H.new, hfz⟩⟩
    obtain ⟨v, hv, hr, h1⟩ := hc i a ha
    exact ⟨v, by simpa using hv, hr.mono hle, h1⟩
  · intro f ms hms
    rw [Tr.get_set] at hms
    split at hms
    · rename_i e; subst e; cases hms; exact .inr ⟨rfl, rfl⟩
    · rename_i e; exact .inl ⟨hms, e⟩
  · intro f ms hms
    rw [Tr.get_set, if_neg (by have := H.famlt _ _ hms; omega)]
    exact hms
  · intro el ce f e
    cases e
    exact ⟨rfl, by rw [Tr.get_set, if_pos rfl]⟩

theorem HR.newRow (H : HR B w0 c h w) (elem : TypeId) (cells : List AV) (cs : Array Value) (hlen : cells.length ≤ cs.size)
    (hc : ∀ (i : Nat) (a : AV), cells[i]? = some a → ∃ v : Value, cs[i]? = some v ∧ VR c a v ∧ v.oneCell' = true) :
    HR B w0 (c.ext h.next ⟨w.heap.size, 0, cs.size⟩) (h.row elem cells) (w.alloc (.cells cs elem)) :=
  H.newRowFz elem cells cs (0, 0) (fun i _ hh => by simp at hh) hlen hc

/-- A new object that is no row. -/
theorem HR.newObj (H : HR B w0 c h w) (o : AObj) (O : Obj) (hn : ∀ e cs f b, o ≠ .row e cs f b)
    (hO : OR (c.ext h.next ⟨w.heap.size, 0, 0⟩) B (w.alloc O) o ⟨w.heap.size, 0, 0⟩) :
    HR B w0 (c.ext h.next ⟨w.heap.size, 0, 0⟩) (h.new o) (w.alloc O) :=
  H.alloc o O ⟨w.heap.size, 0, 0⟩ h.fams rfl hO (fun f ms hms => .inl ⟨hms, by have := H.famlt _ _ hms; omega⟩) (fun _ _ hms => hms)
    (fun _ _ _ e => absurd e (hn _ _ _ _)) (fun _ _ _ e => absurd e (hn _ _ _ _))

theorem get_kill (keep : Nat) : ∀ (l : List Nat) (h : Hp) (i : Nat), (h.kill keep l).get i = if i ∈ l ∧ i ≠ keep then some .dead else h.get i
  | [], h, i => by simp [Hp.kill]
  | x :: l, h, i => by
    have ih := get_kill keep l
    simp only [Hp.kill, List.foldl_cons]
    by_cases hx : x = keep
    · simp only [hx, if_true]
      have := ih h i
      simp only [Hp.kill] at this
      rw [this]
      by_cases hi : i = keep
      · simp [hi]
      · simp [hi]
    · simp only [hx, if_false]
      have := ih (h.put x .dead) i
      simp only [Hp.kill] at this
      rw [this]
      have hp : (h.put x .dead).get i = if i = x then some .dead else h.get i := Tr.get_set _ _ _ _
      rw [hp]
      by_cases hi : i = x
      · subst hi; simp [hx]
      · simp [hi]
theorem fams_kill (keep : Nat) : ∀ (l : List Nat) (h : Hp), (h.kill keep l).fams = h.fams ∧ (h.kill keep l).next = h.next
  | [], h => by simp [Hp.kill]
  | x :: l, h => by
    have ih := fams_kill keep l
    simp only [Hp.kill, List.foldl_cons]
    by_cases hx : x = keep
    · simp only [hx, if_true]; exact ih h
    · simp only [hx, if_false]; exact ih (h.put x .dead)

noncomputable def seg (cs : Array Value) (o : Nat) (news : List Value) : Array Value := (cs.toList.take o ++ news ++ cs.toList.drop (o + news.length)).toArray
theorem seg_size {cs : Array Value} {o : Nat} {news : List Value} (h : o + news.length ≤ cs.size) : (seg cs o news).size = cs.size := by
  simp [seg]; omega
theorem seg_in {cs : Array Value} {o : Nat} {news : List Value} (h : o + news.length ≤ cs.size) (i : Nat) (hi : i < news.length) : (seg cs o news)[o + i]? = news[i]? := by
  simp only [seg, List.getElem?_toArray, List.append_assoc]
  rw [List.getElem?_append_right (by simp; omega)]
  simp only [List.length_take, Array.length_toList]
  rw [show o + i - min o cs.size = i from by omega, List.getElem?_append_left hi]
theorem seg_out {cs : Array Value} {o : Nat} {news : List Value} (h : o + news.length ≤ cs.size) (i : Nat) (hi : i < o ∨ o + news.length ≤ i) : (seg cs o news)[i]? = cs[i]? := by
  simp only [seg, List.getElem?_toArray, List.append_assoc]
  rcases hi with hi | hi
  · rw [List.getElem?_append_left (by simp; omega), List.getElem?_take_of_lt hi]
    simp
  · rw [List.getElem?_append_right (by simp; omega), List.getElem?_append_right (by simp; omega)]
    simp only [List.length_take, Array.length_toList, List.getElem?_drop]
    rw [show o + news.length + (i - min o cs.size - news.length) = i from by omega]
    simp
theorem patch_length {cells : List AV} {off : Nat} {new : List AV} (h : off + new.length ≤ cells.length) : (patch cells off new).length = cells.length := by
  simp [patch]; omega
theorem patch_in {cells : List AV} {off : Nat} {new : List AV} (h : off + new.length ≤ cells.length) (i : Nat) (hi : i < new.length) : (patch cells off new)[off + i]? = new[i]? := by
  simp only [patch]
  rw [List.getElem?_append_right (by simp; omega)]
  simp only [List.length_take]
  rw [show off + i - min off cells.length = i from by omega, List.getElem?_append_left hi]
theorem patch_out {cells : List AV} {off : Nat} {new : List AV} (h : off + new.length ≤ cells.length) (i : Nat) (hi : i < off ∨ off + new.length ≤ i) : (patch cells off new)[i]? = cells[i]? := by
  simp only [patch]
  rcases hi with hi | hi
  · rw [List.getElem?_append_left (by simp; omega), List.getElem?_take_of_lt hi]
  · rw [List.getElem?_append_right (by simp; omega), List.getElem?_append_right (by simp; omega)]
    simp only [List.length_take, List.getElem?_drop]
    rw [show off + new.length + (i - min off cells.length - new.length) = i from by omega]

theorem heap_setRow_same {w : World} {g : Nat} {cs ds : Array Value} {t : TypeId} {fz : Nat × Nat} (hg : w.heap[g]? = some (.cells cs t fz)) : (w.setRow g ds).heap[g]? = some (.cells ds t fz) := setRow_heap w g cs ds t fz hg
theorem heap_setRow_other (w : World) (g k : Nat) (ds : Array Value) (h : k ≠ g) : (w.setRow g ds).heap[k]? = w.heap[k]? := by
  simp only [World.setRow, Array.getElem?_modify]
  rw [if_neg (by omega)]
theorem below_setRow {K : Nat → Prop} {a w : World} (h : Keep K a w) {g : Nat} (hg : ¬ K g) (ds : Array Value) : Keep K a (w.setRow g ds) :=
  h.trans ⟨rfl, rfl, rfl, by simp, fun k hk => heap_setRow_other w g k ds (fun e => hg (e ▸ hk))⟩

theorem kin_row {e e' : TypeId} {cs cs' : List AV} {f : Nat} {x : AObj} : AObj.kin (.row e cs f true) x ↔ AObj.kin (.row e' cs' f true) x := by
  cases x with
  | row a b g w => cases w <;> exact Iff.rfl
  | map _ _ => exact Iff.rfl
  | loop _ _ _ _ _ _ _ _ => exact Iff.rfl
  | dfr => exact Iff.rfl
  | dead => exact Iff.rfl
theorem kin_row' {e e' : TypeId} {cs cs' : List AV} {f : Nat} {x : AObj} : AObj.kin x (.row e cs f true) ↔ AObj.kin x (.row e' cs' f true) := by
  cases x with
  | row a b g w => cases w <;> exact Iff.rfl
  | map _ _ => exact Iff.rfl
  | loop _ _ _ _ _ _ _ _ => exact Iff.rfl
  | dfr => exact Iff.rfl
  | dead => exact Iff.rfl

/-- A row of a family, alone alive, with other cells of the same number (and perhaps shut for writing). -/
theorem HR.rowPut (H : HR B w0 c h w) {r : Nat} {elem : TypeId} {cells cells' : List AV} {fam : Nat} {ms : List Nat} {wr : Bool} {w' : World} {L : Loc}
    (hr : h.get r = some (.row elem cells fam true)) (hms : h.fams.get fam = some ms) (hL : c r = some L) (hlen : cells'.length = cells.length)
    (hb : Keep B.keep w0 w') (hsz : w'.heap.size = w.heap.size) (hoth : ∀ k, k ≠ L.blk → w'.heap[k]? = w.heap[k]?) (hnew : OR c B w' (.row elem cells' fam wr) L) :
    HR B w0 c { (h.kill r ms) with objs := (h.kill r ms).objs.set r (.row elem cells' fam wr), fams := h.fams.set fam [r] } w' := by
  have hget : ∀ i, ({ (h.kill r ms) with objs := (h.kill r ms).objs.set r (.row elem cells' fam wr), fams := h.fams.set fam [r] } : Hp).get i =
      if i = r then some (.row elem cells' fam wr) else if i ∈ ms then some .dead else h.get i := fun i => by
    show Tr.get (Tr.set _ _ _) i = _
    rw [Tr.get_set]
    by_cases e : i = r
    · simp [e]
    · rw [if_neg e, if_neg e]
      show (h.kill r ms).get i = _
      rw [get_kill]
      by_cases hm : i ∈ ms <;> simp [hm, e]
  have hnx := (fams_kill r ms h).2
  refine ⟨hb, by rw [hsz]; exact H.hB, fun i hi => H.fresh i (by simpa [hnx] using hi), fun i o hi => ?_, fun i M hM => by rw [hsz]; exact H.lt i M hM, H.av, ?_, ?_, ?_, ?_, ?_, ?_⟩
  · rw [hget] at hi
    split at hi
    · rename_i e; subst e; cases hi; exact ⟨L, hL, hnew⟩
    · rename_i hne
      split at hi
      · cases hi
        rename_i hin
        obtain ⟨M, hM⟩ := H.mem fam ms hms i hin
        exact ⟨M, hM, trivial⟩
      · rename_i hnin
        obtain ⟨M, hM, hor⟩ := H.obj i o hi
        refine ⟨M, hM, hor.keep (Ctx.le_refl _) ?_⟩
        cases hlive : o.live with
        | false => left; cases o <;> simp_all [AObj.live]
        | true =>
          right
          refine hoth _ fun e => ?_
          have hk := H.apart r i _ _ L M hr hi hL hM (Ne.symm hne) rfl hlive e.symm
          cases o with
          | row e2 c2 f2 w2 =>
            cases w2 with
            | true =>
              simp only [AObj.kin] at hk
              subst hk
              obtain ⟨_, ms', hms', hin⟩ := H.fam i _ _ _ hi
              rw [hms] at hms'; cases hms'
              exact hnin hin
            | false => exact hk.elim
          | _ => exact hk.elim
  · intro i j oi oj Li Lj hi hj hci hcj hij ho hl hbk
    rw [hget] at hi hj
    have back : ∀ k ok, (if k = r then some (AObj.row elem cells' fam wr) else if k ∈ ms then some .dead else h.get k) = some ok → ok.live = true →
        ∃ ok0, h.get k = some ok0 ∧ ok0.live = true ∧ (ok.owned = true → ok0.owned = true) ∧ (∀ x, (k = r → wr = true) → ok0.kin x → ok.kin x) ∧ (∀ x, (k = r → wr = true) → AObj.kin x ok0 → AObj.kin x ok) := fun k ok hk hlv => by
      split at hk
      · rename_i e; subst e; cases hk
        exact ⟨_, hr, rfl, fun _ => rfl, fun x hw hx => by rw [hw rfl]; exact kin_row.1 hx, fun x hw hx => by rw [hw rfl]; exact kin_row'.1 hx⟩
      · split at hk
        · cases hk; simp [AObj.live] at hlv
        · exact ⟨ok, hk, hlv, id, fun _ _ h => h, fun _ _ h => h⟩
    have hli : oi.live = true := by cases oi <;> simp_all [AObj.live, AObj.owned]
    obtain ⟨oi0, hi0, hli0, hoi0, hki, hki'⟩ := back i oi hi hli
    obtain ⟨oj0, hj0, hlj0, _, hkj, hkj'⟩ := back j oj hj hl
    have hk := H.apart i j oi0 oj0 Li Lj hi0 hj0 hci hcj hij (hoi0 ho) hlj0 hbk
    have wri : i = r → wr = true := fun e => by
      subst e; rw [if_pos rfl] at hi; cases hi; exact ho
    have wrj : j = r → wr = true := fun e => by
      subst e
      -- the other one is of the same family, and so it is dead
      exfalso
      have hir : i ≠ j := hij
      rw [if_neg hir] at hi
      split at hi
      · cases hi; simp [AObj.owned] at ho
      · rename_i hnin
        rw [hi] at hi0; cases hi0
        rw [hr] at hj0; cases hj0
        cases oi with
        | row e2 c2 f2 w2 =>
          cases w2 with
          | true =>
            simp only [AObj.kin] at hk
            subst hk
            obtain ⟨_, ms', hms', hin⟩ := H.fam i _ _ _ hi
            rw [hms] at hms'; cases hms'
            exact hnin hin
          | false => exact hk.elim
        | _ => exact hk.elim
    exact hkj' oi wrj (hki oj0 wri hk)
  · intro i e2 c2 f2 hi
    rw [hget] at hi
    split at hi
    · rename_i e; subst e; cases hi
      exact ⟨by have := (H.fam i _ _ _ hr).1; simpa [hnx] using this, [i], by rw [Tr.get_set, if_pos rfl], by simp⟩
    · split at hi
      · cases hi
      · rename_i hnin
        obtain ⟨hlt, ms', hms', hin⟩ := H.fam i _ _ _ hi
        have hne : f2 ≠ fam := fun e => by subst e; rw [hms] at hms'; cases hms'; exact hnin hin
        exact ⟨by simpa [hnx] using hlt, ms', by rw [Tr.get_set, if_neg hne]; exact hms', hin⟩
  · intro f ms' hms'
    rw [Tr.get_set] at hms'
    split at hms'
    · rename_i e; subst e; have := H.famlt _ _ hms; simpa [hnx] using this
    · have := H.famlt _ _ hms'; simpa [hnx] using this
  · intro f ms' hms'
    rw [Tr.get_set] at hms'
    split at hms'
    · cases hms'; simp
    · refine (H.chain f ms' hms').imp ?_
      intro i j hch oi oj Li Lj hi hj hl0 hl hci hcj hbk
      rw [hget] at hi hj
      have back : ∀ k ok, (if k = r then some (AObj.row elem cells' fam wr) else if k ∈ ms then some .dead else h.get k) = some ok → ok.live = true →
          ∃ ok0, h.get k = some ok0 ∧ ok0.live = true ∧ ok0.len = ok.len := fun k ok hk hlv => by
        split at hk
        · rename_i e; subst e; cases hk
          exact ⟨_, hr, rfl, hlen.symm⟩
        · split at hk
          · cases hk; simp [AObj.live] at hlv
          · exact ⟨ok, hk, hlv, rfl⟩
      obtain ⟨oi0, hi0, hli0, hle⟩ := back i oi hi hl0
      obtain ⟨oj0, hj0, hlj0, hlj⟩ := back j oj hj hl
      rw [← hle, ← hlj]
      exact hch oi0 oj0 Li Lj hi0 hj0 hli0 hlj0 hci hcj hbk
  · intro f ms' hms' i hin
    rw [Tr.get_set] at hms'
    split at hms'
    · cases hms'; simp at hin; subst hin; exact ⟨L, hL⟩
    · exact H.mem f ms' hms' i hin
  · intro i e2 c2 w2 M hi hM
    rw [hget] at hi
    split at hi
    · rename_i e; subst e; cases hi
      exact H.base0 _ _ _ _ M hr hM
    · split at hi
      · cases hi
      · exact H.base0 i e2 c2 w2 M hi hM
end
end Go.Ev
