/-
  Joins: the program's state, a forest in memory, and what each step keeps.
-/
import Derived.Test.YtlacohjecehpiaaEvPaRoot
import Derived.Test.YtlacohjecehpiaaEvPaCount
namespace Go.Proofs.Ytlacohjecehpiaa.Part
open Go Go.RowKit Go.Part Go.Law Go.Maps

noncomputable instance predEq : DecidableEq (Nat → Prop) := fun a b => Classical.propDecidable (a = b)
/-- The labels of the join. -/
noncomputable def glue (n : Nat) (a b : List Int) : List Int := labs (fun i => Conn n (fn a) (fn b) i) n
theorem conn_eqv (n : Nat) (a b : Nat → Int) (i j : Nat) : Conn n a b i = Conn n a b j ↔ Conn n a b i j := by
  constructor
  · intro h; rw [h]; exact .refl j
  · intro h; funext k; exact propext ⟨fun h' => h.symm.trans h', fun h' => h.trans h'⟩
theorem glue_of {n : Nat} {a b : List Int} {r : Nat → Nat} (h : IsJoin n (fn a) (fn b) r) : labs r n = glue n a b :=
  labs_eqv fun i j hi hj => by rw [h i j hi hj, conn_eqv]
/-- Roots are connected with what hangs on them. -/
def Tied (n : Nat) (a b : Nat → Int) (ps : List Nat) : Prop := ∀ i, i < n → Conn n a b (root (pf ps) i) i
/-- Elements that a list puts together have one root. -/
def Joined (n : Nat) (l : Nat → Int) (ps : List Nat) : Prop := ∀ i j, i < n → j < n → l i = l j → root (pf ps) i = root (pf ps) j
theorem join_is {n : Nat} {a b : Nat → Int} {ps : List Nat} (h : Tied n a b ps) (ha : Joined n a ps) (hb : Joined n b ps) : IsJoin n a b (root (pf ps)) := by
  intro i j hi hj
  constructor
  · intro e
    have h1 := h i hi
    have h2 := h j hj
    rw [e] at h1
    exact h1.symm.trans h2
  · exact Conn.same ha hb
theorem tied_same {n : Nat} {a b : Nat → Int} {ps qs : List Nat} (h : Tied n a b ps) (e : ∀ j, root (pf qs) j = root (pf ps) j) : Tied n a b qs := fun i hi => by rw [e]; exact h i hi
theorem joined_same {n : Nat} {l : Nat → Int} {ps qs : List Nat} (h : Joined n l ps) (e : ∀ j, root (pf qs) j = root (pf ps) j) : Joined n l qs := fun i j hi hj he => by rw [e, e]; exact h i j hi hj he
/-- One tree hung below another one. -/
theorem hang {n : Nat} {ps : List Nat} (hp : ∀ i, pf ps i ≤ i) {lo hi i j : Nat} (hlen : ps.length = n) (h1 : root (pf ps) i = lo) (h2 : root (pf ps) j = hi) (hlo : lo ≤ hi) (hh : hi < n) :
    (∀ k, root (pf (ps.set hi lo)) k = if root (pf ps) k = hi then lo else root (pf ps) k) := by
  rw [pf_set (by omega)]
  exact root_join (by rw [← h1]; exact root_fix hp i) (by rw [← h2]; exact root_fix hp j) hlo
theorem hang_tied {n : Nat} {a b : Nat → Int} {ps qs : List Nat} {lo hi : Nat} (h : Tied n a b ps) (e : ∀ k, root (pf qs) k = if root (pf ps) k = hi then lo else root (pf ps) k) (hc : Conn n a b lo hi) : Tied n a b qs := by
  intro i hi'
  rw [e]
  by_cases c : root (pf ps) i = hi
  · rw [if_pos c]
    have := h i hi'
    rw [c] at this
    exact hc.trans this
  · rw [if_neg c]; exact h i hi'
theorem hang_joined {n : Nat} {l : Nat → Int} {ps qs : List Nat} {lo hi : Nat} (h : Joined n l ps) (e : ∀ k, root (pf qs) k = if root (pf ps) k = hi then lo else root (pf ps) k) : Joined n l qs := fun i j hi' hj he => by rw [e, e, h i j hi' hj he]
theorem hung_step {n : Nat} {A B : Nat → Int} {l ls : List Int} {q k m lo hi : Nat} {qs qs2 : List Nat} (hp : ∀ i, pf qs2 i ≤ i) (hlen : qs2.length = n) (e12 : ∀ j, root (pf qs2) j = root (pf qs) j) (htd : Tied n A B qs) (hja : 0 < q → Joined n A qs)
    (hrt : ∀ j, j < k → root (pf qs) j = root (pf qs) (ls.getD (l.getD j 0).toNat 0).toNat) (hmx : ls.getD (l.getD k 0).toNat 0 = (m : Int)) (h : (root (pf qs) m = lo ∧ root (pf qs) k = hi) ∨ (root (pf qs) k = lo ∧ root (pf qs) m = hi)) (hle : lo ≤ hi) (hh : hi < n) (hc : Conn n A B lo hi) :
    Tied n A B (qs2.set hi lo) ∧ (0 < q → Joined n A (qs2.set hi lo)) ∧ ∀ j, j < k + 1 → root (pf (qs2.set hi lo)) j = root (pf (qs2.set hi lo)) (ls.getD (l.getD j 0).toNat 0).toNat := by
  have E : ∀ j, root (pf (qs2.set hi lo)) j = if root (pf qs2) j = hi then lo else root (pf qs2) j := by
    rcases h with ⟨h1, h2⟩ | ⟨h1, h2⟩
    · exact hang hp hlen ((e12 m).trans h1) ((e12 k).trans h2) hle hh
    · exact hang hp hlen ((e12 k).trans h1) ((e12 m).trans h2) hle hh
  refine ⟨hang_tied (tied_same htd e12) E hc, fun h0 => hang_joined (joined_same (hja h0) e12) E, below_succ (fun j hj => ?_) ?_⟩
  · rw [E, E, e12, e12, hrt j hj]
  · rw [hmx, Int.toNat_natCast, E, E, e12, e12]
    rcases h with ⟨h1, h2⟩ | ⟨h1, h2⟩
    · rw [h1, h2, if_pos rfl]; split <;> rfl
    · rw [h1, h2, if_pos rfl]; split <;> rfl
theorem range_pf (n : Nat) : pf (List.range n) = fun i => i := by
  funext i
  unfold pf
  by_cases h : i < n
  · simp [List.getD_eq_getElem?_getD, List.getElem?_range, h]
  · rw [List.getD_eq_getElem?_getD, List.getElem?_eq_none (by simp; omega)]; rfl
theorem range_root (n i : Nat) : root (pf (List.range n)) i = i := root_self (by rw [range_pf])
theorem range_tied (n : Nat) (a b : Nat → Int) : Tied n a b (List.range n) := fun i _ => by rw [range_root]; exact .refl i

/-- The state of the join. -/
structure JS (w0 : World) (R pb L n : Nat) (va vb : Value) (w : World) (ps : List Nat) : Prop where
  forest : Forest w R pb n ps
  bel : Below w0.heap.size w0 w
  la : w.cell? ⟨L, 0, none⟩ = some va
  lb : w.cell? ⟨L, 1, none⟩ = some vb
section
variable {w0 w w' : World} {R pb L n : Nat} {va vb : Value} {ps qs : List Nat}
theorem JS.alloc (h : JS w0 R pb L n va vb w ps) (o : Obj) : JS w0 R pb L n va vb (w.alloc o) ps :=
  ⟨h.forest.same (Below.heap_alloc _ _ _ h.forest.own.lt) (Below.heap_alloc _ _ _ (cell_lt h.forest.box)), h.bel.alloc h.bel.size o, by rw [World.cell?_alloc_past _ _ _ (cell_lt h.la)]; exact h.la, by rw [World.cell?_alloc_past _ _ _ (cell_lt h.lb)]; exact h.lb⟩
theorem JS.far (h : JS w0 R pb L n va vb w ps) {D i : Nat} (v : Value) (h1 : D ≠ R) (h2 : D ≠ pb) (h3 : D ≠ L) (h4 : w0.heap.size ≤ D) : JS w0 R pb L n va vb (w.setCell ⟨D, i, none⟩ v) ps :=
  ⟨h.forest.same (Below.heap_setCell _ _ _ _ (Ne.symm h1)) (Below.heap_setCell _ _ _ _ (Ne.symm h2)), h.bel.setCell h4 v, by rw [cell_same (Below.heap_setCell _ _ _ _ (Ne.symm h3))]; exact h.la, by rw [cell_same (Below.heap_setCell _ _ _ _ (Ne.symm h3))]; exact h.lb⟩
theorem JS.root (h : JS w0 R pb L n va vb w ps) (hg : w.grownBy w' (some R)) (hf : Forest w' R pb n qs) (h3 : L ≠ R) (h4 : w0.heap.size ≤ R) : JS w0 R pb L n va vb w' qs :=
  ⟨hf, h.bel.grown hg h.bel.size (fun j hj => by cases hj; exact h4), by rw [cell_same (hg.block L (cell_lt h.la) (fun e => h3 (Option.some.inj e)))]; exact h.la, by rw [cell_same (hg.block L (cell_lt h.lb) (fun e => h3 (Option.some.inj e)))]; exact h.lb⟩
theorem JS.store (h : JS w0 R pb L n va vb w ps) (hpb : pb ≠ R) (h3 : L ≠ R) (h4 : w0.heap.size ≤ R) {i v : Nat} (hi : i < n) (hv : v ≤ i) : JS w0 R pb L n va vb (w.setCell ⟨R, i, none⟩ (.int .i64 (v : Int))) (ps.set i v) :=
  h.root (grown_set (grown_refl _ _) _) (h.forest.set hpb hi hv) h3 h4
end
theorem ints_index {w : World} {v : Value} {zs : List Int} (h : IntsAt w .i64 v zs) {j : Nat} (hj : j < zs.length) :
    ∃ p : Addr, p.block < w.heap.size ∧ (∀ W : World, (Instr.indexAt 22 v (.int .i64 (j : Int))).run Try.prog W = .ok (.pointer (some p)) W) ∧ w.cell? p = some (.int .i64 (zs.getD j 0)) := by
  obtain ⟨a, cap, rfl, h1, h2, h3⟩ := h
  rcases h3 with rfl | ⟨b, off, rfl, hb, hc⟩
  · simp at hj
  · exact ⟨⟨b, off + j, none⟩, hb, fun W => index_at W b off _ cap j hj, hc j hj⟩
/-- Leaders of labels: elements with them. -/
def Lead (n : Nat) (l ls : List Int) (k : Nat) : Prop := ∀ j, k ≤ j → j < n → ∃ m : Nat, ls.getD (l.getD j 0).toNat 0 = (m : Int) ∧ m < n ∧ l.getD m 0 = l.getD j 0
theorem lead_set {n c : Nat} {l ls : List Int} {k x : Nat} (h : Lead n l ls (k + 1)) (hk : k < n) (hnn : ∀ j, j < n → 0 ≤ l.getD j 0) (hx : l.getD k 0 = (x : Int)) (hl : ls.length = c) (hxc : x < c) : Lead n l (ls.set x (k : Int)) k := by
  intro j hj hjn
  by_cases e : l.getD j 0 = (x : Int)
  · refine ⟨k, ?_, hk, by rw [e, hx]⟩
    rw [e, Int.toNat_natCast, List.getD_eq_getElem?_getD, List.getElem?_set_self (by omega)]; rfl
  · have hjk : k + 1 ≤ j := by
      by_cases ej : j = k
      · subst ej; exact absurd hx e
      · omega
    obtain ⟨m, h1, h2, h3⟩ := h j hjk hjn
    have := hnn j hjn
    exact ⟨m, by rw [List.getD_eq_getElem?_getD, List.getElem?_set_ne (by omega), ← List.getD_eq_getElem?_getD]; exact h1, h2, h3⟩
end Go.Proofs.Ytlacohjecehpiaa.Part
