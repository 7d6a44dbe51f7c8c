/-
  A block of cells that a call made itself: known whole.
-/
import Derived.WalkKit
import Derived.Below
import Derived.Laws.MakeOwn
import Derived.Laws.OwnMore
import Derived.Deep.Draws
namespace Go.Law
open Go Go.RowKit

/-- Block B holds just these cells, and may be written. -/
def Own (w : World) (B : Nat) (t : TypeId) (cs : List Value) : Prop := w.heap[B]? = some (.cells ⟨cs⟩ t (0, 0))
theorem Own.cell {w : World} {B : Nat} {t : TypeId} {cs : List Value} (h : Own w B t cs) {j : Nat} {v : Value} (hj : cs[j]? = some v) : w.cell? ⟨B, j, none⟩ = some v := by
  unfold Own at h
  simp [World.cell?, h, hj]
theorem Own.free {w : World} {B : Nat} {t : TypeId} {cs : List Value} (h : Own w B t cs) (j : Nat) : w.frozen? ⟨B, j, none⟩ = false := by
  unfold Own at h
  simp [World.frozen?, h]
theorem Own.lt {w : World} {B : Nat} {t : TypeId} {cs : List Value} (h : Own w B t cs) : B < w.heap.size := by
  by_cases hb : B < w.heap.size
  · exact hb
  · unfold Own at h; rw [Array.getElem?_eq_none (by omega)] at h; cases h
theorem Own.set {w : World} {B : Nat} {t : TypeId} {cs : List Value} (h : Own w B t cs) (j : Nat) (v : Value) : Own (w.setCell ⟨B, j, none⟩ v) B t (cs.set j v) := by
  have hlt := h.lt
  unfold Own at h ⊢
  unfold World.setCell
  simp only [Array.getElem?_modify, if_pos]
  rw [h]
  simp
theorem Own.set_far {w : World} {B : Nat} {t : TypeId} {cs : List Value} (h : Own w B t cs) {p : Addr} (hp : p.block ≠ B) (v : Value) : Own (w.setCell p v) B t cs := by
  unfold Own at h ⊢
  rw [Below.heap_setCell w p v B (Ne.symm hp)]; exact h
theorem Own.drewN {w : World} {B : Nat} {t : TypeId} {cs : List Value} (h : Own w B t cs) (m : Nat) : Own (w.drewN m) B t cs := h
theorem Own.drew {w : World} {B : Nat} {t : TypeId} {cs : List Value} (h : Own w B t cs) : Own w.drew B t cs := h
theorem Own.below {w w' : World} {B : Nat} {t : TypeId} {cs : List Value} (h : Own w B t cs) {B' : Nat} (hb : Below B' w w') (hB : B < B') : Own w' B t cs := by
  unfold Own at h ⊢
  rw [hb.block B hB]; exact h
theorem Own.made (w : World) (t : TypeId) (z : Value) (n : Nat) : Own (w.alloc (.cells (madeCells #[z] n) t)) w.heap.size t (List.replicate n z) := by
  unfold Own
  have : madeCells #[z] n = ⟨List.replicate n z⟩ := by rw [← toList_madeCells_one]
  rw [this]
  unfold World.alloc
  simp
theorem Own.alloc {w : World} {B : Nat} {t : TypeId} {cs : List Value} (h : Own w B t cs) (o : Obj) : Own (w.alloc o) B t cs := by
  have hlt := h.lt
  unfold Own at h ⊢
  rw [Below.heap_alloc w o B hlt]; exact h
theorem below_drewN {B : Nat} {a w : World} (h : Below B a w) (n : Nat) : Below B a (w.drewN n) := ⟨h.os, h.tape, h.output, h.size, h.block⟩

/-- The cells of a list of integers. -/
def At (w : World) (b off : Nat) (zs : List Int) : Prop := ∀ j, j < zs.length → w.cell? ⟨b, off + j, none⟩ = some (.int .i64 (zs.getD j 0))
theorem At.take {w : World} {b off : Nat} {zs : List Int} (h : At w b off zs) (k : Nat) : At w b off (zs.take k) := by
  intro j hj
  rw [List.length_take] at hj
  rw [h j (by omega)]
  simp only [List.getD_eq_getElem?_getD]
  rw [List.getElem?_take, if_pos (by omega)]
theorem At.drewN {w : World} {b off : Nat} {zs : List Int} (h : At w b off zs) (m : Nat) : At (w.drewN m) b off zs := fun j hj => by rw [← h j hj]; simp
theorem At.below {w w' : World} {b off B : Nat} {zs : List Int} (h : At w b off zs) (hb : Below B w w') (hB : b < B) : At w' b off zs := fun j hj => by rw [hb.cell hB]; exact h j hj
theorem At.lt {w : World} {b off : Nat} {zs : List Int} (h : At w b off zs) (hz : 0 < zs.length) : b < w.heap.size := by
  have h := h 0 hz
  by_cases hb : b < w.heap.size
  · exact hb
  · exfalso
    simp only [World.cell?] at h
    rw [Array.getElem?_eq_none (by omega)] at h
    cases h
theorem Own.at {w : World} {B : Nat} {t : TypeId} {zs : List Int} (h : Own w B t (zs.map (Value.int .i64))) : At w B 0 zs := by
  intro j hj
  rw [Nat.zero_add]
  refine h.cell ?_
  rw [List.getElem?_map, List.getElem?_eq_getElem hj]
  simp [List.getD, List.getElem?_eq_getElem hj]
end Go.Law
