/-
  The root of an element: the closure that the join asks, which shortens paths.
-/
import Derived.Test.YtlacohjecehpiaaEvPaFew
namespace Go.Proofs.Ytlacohjecehpiaa.Part
open Go Go.RowKit Go.Part Go.Law Go.Maps

/-- Parents, as a function: nobody beyond the list has another parent. -/
def pf (ps : List Nat) (i : Nat) : Nat := ps.getD i i
def vals (ps : List Nat) : List Value := ps.map fun (x : Nat) => Value.int .i64 (x : Int)
theorem vals_length (ps : List Nat) : (vals ps).length = ps.length := by simp [vals]
theorem vals_get {ps : List Nat} {i : Nat} (h : i < ps.length) : (vals ps)[i]? = some (.int .i64 (pf ps i : Int)) := by
  simp [vals, pf, List.getD, List.getElem?_eq_getElem h]
theorem vals_set (ps : List Nat) (i v : Nat) : (vals ps).set i (.int .i64 (v : Int)) = vals (ps.set i v) := by simp [vals, List.map_set]
theorem pf_set {ps : List Nat} {i v : Nat} (h : i < ps.length) : pf (ps.set i v) = upd (pf ps) i v := by
  funext j
  show (ps.set i v).getD j j = if j = i then v else ps.getD j j
  by_cases e : j = i
  · subst e
    rw [if_pos rfl, List.getD_eq_getElem?_getD, List.getElem?_set_self h]; rfl
  · rw [if_neg e, List.getD_eq_getElem?_getD, List.getD_eq_getElem?_getD, List.getElem?_set_ne (by omega)]
/-- A forest in a block, behind a box. -/
structure Forest (w : World) (R pb n : Nat) (ps : List Nat) : Prop where
  len : ps.length = n
  le : ∀ i, pf ps i ≤ i
  own : Own w R 3 (vals ps)
  box : w.cell? ⟨pb, 0, none⟩ = some (.slice (some ⟨R, 0, none⟩) n n)
theorem Forest.set {w : World} {R pb n : Nat} {ps : List Nat} (h : Forest w R pb n ps) (hpb : pb ≠ R) {i v : Nat} (hi : i < n) (hv : v ≤ i) : Forest (w.setCell ⟨R, i, none⟩ (.int .i64 (v : Int))) R pb n (ps.set i v) :=
  ⟨by simp [h.len], by rw [pf_set (by rw [h.len]; exact hi)]; exact upd_le h.le hv, by rw [← vals_set]; exact h.own.set i _, by rw [World.cell?_setCell_other]; exact h.box; exact fun e => hpb (by cases e; rfl)⟩
theorem Forest.same {w w' : World} {R pb n : Nat} {ps : List Nat} (h : Forest w R pb n ps) (h1 : w'.heap[R]? = w.heap[R]?) (h2 : w'.heap[pb]? = w.heap[pb]?) : Forest w' R pb n ps :=
  ⟨h.len, h.le, Own.block' h.own h1, by rw [cell_same (a := ⟨pb, 0, none⟩) h2]; exact h.box⟩
theorem Forest.cell {w : World} {R pb n : Nat} {ps : List Nat} (h : Forest w R pb n ps) {i : Nat} (hi : i < n) : w.cell? ⟨R, i, none⟩ = some (.int .i64 (pf ps i : Int)) := h.own.cell (vals_get (by rw [h.len]; exact hi))
def RootPost (n R pb : Nat) (r : Nat → Nat) (i : Nat) (W : World) (e : Ending) (w' : World) : Prop := ∃ ps, e = .returned (.int .i64 (r i : Int)) ∧ Forest w' R pb n ps ∧ (∀ j, root (pf ps) j = r j) ∧ W.grownBy w' (some R)
theorem grown_refl (w : World) (row : Option Nat) : w.grownBy w row := ⟨rfl, rfl, rfl, Nat.le_refl _, fun _ _ _ => rfl⟩
theorem grown_set {a w : World} {R i : Nat} (h : a.grownBy w (some R)) (v : Value) : a.grownBy (w.setCell ⟨R, i, none⟩ v) (some R) :=
  ⟨h.os, h.tape, h.output, by simpa [World.setCell] using h.size, fun k hk hne => by rw [Below.heap_setCell _ _ _ _ (fun e => hne (by rw [e]))]; exact h.block k hk hne⟩
theorem grown_drew {a w : World} {row : Option Nat} (h : a.grownBy w row) : a.grownBy w.drew row := ⟨h.os, h.tape, h.output, h.size, h.block⟩
theorem Forest.drew {w : World} {R pb n : Nat} {ps : List Nat} (h : Forest w R pb n ps) : Forest w.drew R pb n ps := ⟨h.len, h.le, h.own.drew, h.box⟩
set_option maxRecDepth 100000 in
set_option maxHeartbeats 2000000 in
theorem root_any (n R pb : Nat) (hpb : pb ≠ R) (i : Nat) (hi : i < n) (ps0 : List Nat) (w : World) (h : Forest w R pb n ps0) :
    Calls Try.prog 58 #[.int .i64 i, .pointer (some ⟨pb, 0, none⟩)] w (RootPost n R pb (root (pf ps0)) i w) := by
  have HF0 := Lib.hid h
  clear h
  go_enter Try.func58, Try.ntmps58
  go_wp2
  go_loopw [0] (fun v wr => ∃ (k : Nat) (ps : List Nat), k < n ∧ v = .int .i64 k ∧ Forest wr R pb n ps ∧ (∀ j, root (pf ps) j = root (pf ps0) j) ∧ root (pf ps0) k = root (pf ps0) i ∧ w.grownBy wr (some R)) (fun v _ => (intOf v).toNat)
  case atStart => exact ⟨i, ps0, hi, rfl, HF0.out, fun _ => rfl, rfl, grown_refl _ _⟩
  case round =>
    obtain ⟨k, ps, hk, rfl, hf, hr, hri, hg⟩ := hrel
    have hx := hf.cell hk
    have hbox := hf.box
    have hle := hf.le k
    have HR := Lib.hid hr
    have HRI := Lib.hid hri
    have HG := Lib.hid hg
    have HF := Lib.hid hf
    clear hr hri hg hf
    by_cases he : pf ps k = k
    · have HE : Hid (root (pf ps0) i = k) := Lib.hid (by rw [← HRI.out, ← HR.out, root_self he])
      rw [he] at hx
      have hd : ((k : Int) != (k : Int)) = false := by simp
      clear he hle
      go_wp2
      go_ret
      exact ⟨ps, ret_int (by rw [HE.out]), HF.out, HR.out, HG.out⟩
    · have hlt : pf ps k < k := by omega
      have hy := HF.out.cell (i := pf ps k) (by omega)
      have hle2 := HF.out.le (pf ps k)
      have HN : Hid (Forest (wr.drew.setCell ⟨R, k, none⟩ (.int .i64 (pf ps (pf ps k) : Int))) R pb n (ps.set k (pf ps (pf ps k)))) := Lib.hid (HF.out.drew.set hpb hk (by omega))
      have HR2 : Hid (∀ j, root (pf (ps.set k (pf ps (pf ps k)))) j = root (pf ps0) j) := Lib.hid (fun j => by rw [pf_set (by rw [HF.out.len]; exact hk), root_halve HF.out.le, HR.out])
      have HR3 : Hid (root (pf ps0) (pf ps (pf ps k)) = root (pf ps0) i) := Lib.hid (by rw [← HR.out, root_up HF.out.le, root_up HF.out.le, HR.out, HRI.out])
      have hfr := HF.out.own.free k
      clear he
      generalize pf ps (pf ps k) = z at *
      generalize pf ps k = y at *
      have hd : ((y : Int) != (k : Int)) = true := by simp; omega
      have hyn : y < n := by omega
      have hfar : pb ≠ R := hpb
      go_wp2
      refine wp_region_still_tail 10 (by kernel_rfl) (by kernel_rfl) ?_
      change wpStill _ _ wr.drew _ _ _
      simp only [List.take_succ_cons, List.take_zero, List.drop_succ_cons, List.drop_zero]
      repeat still_step
      refine wpStill_nil ?_
      change wpList _ _ _ _ _ wr.drew
      go_wp2
      go_roundw
      case rel => exact ⟨z, ps.set k z, by omega, rfl, HN.out, HR2.out, HR3.out, grown_set (grown_drew HG.out) _⟩
      case measure => simp [intOf]; omega
end Go.Proofs.Ytlacohjecehpiaa.Part
