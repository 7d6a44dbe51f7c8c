/-
  A slice of structs (or arrays) of plain cells, as it comes in: its cells, one by one.
-/
import Derived.Deep.Slices
import Derived.ChangeArms
import Derived.OpenShut
namespace Go.Law
open Go Go.ChangeShapes Go.WideShapes

/-- What a cell may hold. -/
inductive CK where
  | int (k : IntKind)
  | str
  | bool
def CK.fits : CK → Value → Prop
  | .int k, v => ∃ n, v = .int k n ∧ (Lit.int k n).wf = true
  | .str, v => ∃ s : ByteArray, v = .string s ∧ s.size ≤ maxLen
  | .bool, v => ∃ b, v = .bool b
def Fits : List CK → List Value → Prop
  | [], [] => True
  | k :: ks, v :: vs => k.fits v ∧ Fits ks vs
  | _, _ => False
theorem Fits.app : ∀ {a : List CK} {x : List Value} {b : List CK} {y : List Value}, Fits a x → Fits b y → Fits (a ++ b) (x ++ y)
  | [], [], _, _, _, h => h
  | _ :: _, _ :: _, _, _, h, k => ⟨h.1, h.2.app k⟩
  | [], _ :: _, _, _, h, _ => h.elim
  | _ :: _, [], _, _, h, _ => h.elim
theorem Fits.len : ∀ {a : List CK} {x : List Value}, Fits a x → x.length = a.length
  | [], [], _ => rfl
  | _ :: _, _ :: _, h => by simp [h.2.len]
  | [], _ :: _, h => h.elim
  | _ :: _, [], h => h.elim
def fieldKinds (P : Program) (K : TypeId → Option (List CK)) (size : Nat) : Nat → List Field → Option (List CK)
  | off, [] => if off = size then some [] else none
  | off, f :: fs => match K f.type, fieldKinds P K size (off + P.cellsOf f.type) fs with
    | some a, some b => if f.offset = off ∧ a.length = P.cellsOf f.type then some (a ++ b) else none
    | _, _ => none
/-- The cells of a type of plain data. -/
def kinds (P : Program) : Nat → TypeId → Option (List CK)
  | 0, _ => none
  | n + 1, t => match P.underlying t with
    | some (.int k) => some [.int k]
    | some .string => some [.str]
    | some .bool => some [.bool]
    | some (.array m e) => match kinds P n e with
      | some ks => if ks.length = P.cellsOf e ∧ P.cellsOf t = m * P.cellsOf e then some (List.replicate m ks).flatten else none
      | none => none
    | some (.struct fs) => fieldKinds P (kinds P n) (P.cellsOf t) 0 fs.toList
    | _ => none
section
variable {H : Type} {enc : TypeId × Value → H} {P : Program} {w : World} {base : Nat} {spare : Nat → Bool} {held : Bool}
theorem fits_rep {ks : List CK} {s : Nat} (hs : ks.length = s) : ∀ (m : Nat) (cs : List Value), cs.length = m * s → (∀ i, i < m → Fits ks ((cs.drop (i * s)).take s)) → Fits (List.replicate m ks).flatten cs
  | 0, cs, hl, _ => by
    rw [Nat.zero_mul] at hl
    rw [List.eq_nil_of_length_eq_zero hl]
    trivial
  | m + 1, cs, hl, h => by
    have h0 := h 0 (by omega)
    rw [Nat.zero_mul, List.drop_zero] at h0
    rw [List.replicate_succ, List.flatten_cons, ← List.take_append_drop s cs]
    refine h0.app (fits_rep hs m _ (by rw [List.length_drop, hl, Nat.succ_mul]; omega) fun i hi => ?_)
    have := h (i + 1) (by omega)
    rw [List.drop_drop, show s + i * s = (i + 1) * s by rw [Nat.succ_mul]; omega]
    exact this
theorem trod_fits : ∀ (n : Nat) (t : TypeId) (ks : List CK), kinds P n t = some ks → ∀ (fuel : Nat) (cs : List Value) (x : DataW H × List MemPlace), DataW.trod enc P w base spare held fuel t cs = some x → Fits ks cs
  | 0, t, ks, h => by unfold kinds at h; cases h
  | n + 1, t, ks, h => by
    intro fuel cs x hx
    unfold kinds at h
    split at h
    · rename_i k hu
      cases h
      obtain ⟨z, rfl, _, hw⟩ := DataW.trod_int hu hx
      exact ⟨⟨z, rfl, hw⟩, trivial⟩
    · rename_i hu
      cases h
      obtain ⟨s, rfl, _, hw⟩ := DataW.trod_string hu hx
      exact ⟨⟨s, rfl, hw⟩, trivial⟩
    · rename_i hu
      cases h
      obtain ⟨b, rfl, _⟩ := DataW.trod_bool hu hx
      exact ⟨⟨b, rfl⟩, trivial⟩
    · rename_i m e hu
      split at h
      · rename_i ks' hk
        split at h
        · rename_i hc
          cases h
          obtain ⟨xs, f', _, _, hl, hxl, hi⟩ := DataW.trod_array hu hx
          rw [hc.2] at hl
          refine fits_rep hc.1 m cs hl fun i him => ?_
          have := hi i him
          rw [List.getElem?_eq_getElem (by omega)] at this
          exact trod_fits n e ks' hk _ _ _ this
        · cases h
      · cases h
    · rename_i fs hu
      obtain ⟨xs, f', _, _, hl, hxl, hi⟩ := DataW.trod_struct hu hx
      have key : ∀ (l : List Field) (j off : Nat) (ks : List CK), fieldKinds P (kinds P n) (P.cellsOf t) off l = some ks → (∀ i f, l[i]? = some f → fs[j + i]? = some f) → off ≤ P.cellsOf t → Fits ks (cs.drop off) := by
        intro l
        induction l with
        | nil =>
          intro j off ks hk _ _
          unfold fieldKinds at hk
          split at hk
          · rename_i he
            cases hk
            rw [List.drop_eq_nil_of_le (by omega)]
            trivial
          · cases hk
        | cons f l ih =>
          intro j off ks hk hf ho
          unfold fieldKinds at hk
          split at hk
          · rename_i a b ha hb
            split at hk
            · rename_i hc
              cases hk
              have hfj := hf 0 f rfl
              rw [Nat.add_zero] at hfj
              have hjl : j < fs.size := (Array.getElem?_eq_some_iff.1 hfj).1
              have h1 := hi j f hfj
              rw [List.getElem?_eq_getElem (by omega), hc.1] at h1
              have hF := trod_fits n f.type a ha _ _ _ h1
              have hlen := hF.len
              rw [List.length_take, List.length_drop, hc.2] at hlen
              have := hF.app (ih (j + 1) (off + P.cellsOf f.type) b hb (fun i g hg => by rw [show j + 1 + i = j + (i + 1) by omega]; exact hf (i + 1) g (by simpa using hg)) (by omega))
              rw [show cs.drop off = (cs.drop off).take (P.cellsOf f.type) ++ cs.drop (off + P.cellsOf f.type) by rw [← List.drop_drop, List.take_append_drop]]
              exact this
            · cases hk
          · cases hk
      have := key fs.toList 0 0 ks h (fun i f hf => by simpa using hf) (Nat.zero_le _)
      simpa using this
    · cases h
/-- A slice of plain data: each element's cells. -/
theorem open_rows {t e : TypeId} {v : Value} {d : DataW H} {ps : List MemPlace} {b0 : Nat} {r : Reach} (ht : P.underlying t = some (.slice e)) (n : Nat) (ks : List CK) (hk : kinds P n e = some ks) (hc : P.cellsOf e = ks.length) (h0 : 0 < ks.length)
    (hval : Value.okWide P w r b0 t v) (h : DataW.Trod enc P w base (fun _ => true) true t v d ps) :
    ∃ (a : Option Addr) (len cap : Nat) (rows : List (List Value)), v = .slice a len cap ∧ len ≤ cap ∧ cap ≤ maxLen ∧ rows.length = len ∧ (∀ row ∈ rows, Fits ks row) ∧
      (0 < len → ∃ b off, a = some ⟨b, off, none⟩ ∧ b < w.heap.size ∧ ∀ i, i < len → ∀ j, j < ks.length → w.cell? ⟨b, off + i * ks.length + j, none⟩ = (rows.getD i [])[j]?) := by
  obtain ⟨a0, len, cap, rfl⟩ := okWide_slice ht hval
  obtain ⟨fuel, hf⟩ := h
  rcases Go.Deep.open_slice ht hf with ⟨hcs, _⟩ | ⟨a, len', cap', m, n', D, Pl, hcs, hb, hl, hm, hmm, _, hi⟩
  · simp [Value.cells] at hcs
    obtain ⟨rfl, rfl, rfl⟩ := hcs
    exact ⟨none, 0, 0, [], rfl, Nat.le_refl _, by simp [maxLen], rfl, fun row hr => (by cases hr), fun h => absurd h (by omega)⟩
  · simp [Value.cells] at hcs
    obtain ⟨rfl, rfl, rfl⟩ := hcs
    simp only [if_true] at hmm
    subst hmm
    have hrow : ∀ i, i < m → ∃ row, w.cells? base (a.add (i * P.cellsOf e)) (P.cellsOf e) = some row ∧ Fits ks row := fun i him => by
      obtain ⟨cs', h1, h2⟩ := hi i him
      exact ⟨cs', h1, trod_fits n e ks hk _ _ _ h2⟩
    let R : Nat → List Value := fun i => if h : i < m then (hrow i h).choose else []
    have hR : ∀ i, i < m → w.cells? base (a.add (i * P.cellsOf e)) (P.cellsOf e) = some (R i) ∧ Fits ks (R i) := fun i him => by
      have := (hrow i him).choose_spec
      show w.cells? base (a.add (i * P.cellsOf e)) (P.cellsOf e) = some (if h : i < m then (hrow i h).choose else []) ∧ Fits ks (if h : i < m then (hrow i h).choose else [])
      rw [dif_pos him]
      exact this
    refine ⟨some a, len, m, (List.range len).map R, rfl, hl, hm, by simp, fun row hr => ?_, fun hp => ?_⟩
    · obtain ⟨i, hi', rfl⟩ := List.mem_map.1 hr
      exact (hR i (by have := List.mem_range.1 hi'; omega)).2
    · obtain ⟨b, off, spot⟩ := a
      have cell : ∀ i, i < len → ∀ j, j < ks.length → w.cell? ((⟨b, off, spot⟩ : Addr).add (i * ks.length + j)) = (R i)[j]? := fun i hil j hj => by
        obtain ⟨_, _, hcell⟩ := World.cells?_some (hR i (by omega)).1
        have := hcell j (by omega)
        rw [Go.Deep.add_add, hc] at this
        exact this
      have c0 := cell 0 hp 0 h0
      have hlen := (hR 0 (by omega)).2.len
      rw [List.getElem?_eq_getElem (by omega)] at c0
      have hspot : spot = none := by simpa [Addr.add] using World.cell?_spot c0
      subst hspot
      refine ⟨b, off, rfl, ?_, fun i hil j hj => ?_⟩
      · by_cases hb' : b < w.heap.size
        · exact hb'
        · exfalso
          rw [Go.WideShapes.add_plain] at c0
          simp only [World.cell?] at c0
          rw [Array.getElem?_eq_none (by omega)] at c0
          cases c0
      · have := cell i hil j hj
        rw [Go.WideShapes.add_plain] at this
        rw [Nat.add_assoc, this]
        simp [List.getD, hil]
end
end Go.Law
