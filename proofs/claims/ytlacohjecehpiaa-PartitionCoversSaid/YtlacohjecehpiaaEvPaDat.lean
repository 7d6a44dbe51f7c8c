/-
  The map that numbers keys: what it reads as behind k keys.
-/
import Derived.Test.YtlacohjecehpiaaEvPaMath
import Derived.Maps.Views
import Derived.Maps.OwnSet
import Derived.WalkKit
import Derived.DeepKeys4
import Derived.Test.YtlacohjecehpiaaEvOwn
set_option linter.unusedSectionVars false
namespace Go.Part
open Go Go.RowKit Go.Maps

noncomputable instance litEq : DecidableEq Lit := fun a b => Classical.propDecidable (a = b)
/-- The map behind k keys. -/
noncomputable def dat (g : Nat → Lit) : Nat → DataW Unit
  | 0 => .map []
  | k + 1 => if fnd g (g k) k = none then (dat g k).put (g k) (.lit (.int .i64 (cnt g k))) else dat g k
variable {g : Nat → Lit} {n : Nat}
theorem dat_new {k : Nat} (h : fnd g (g k) k = none) : dat g (k + 1) = (dat g k).put (g k) (.lit (.int .i64 (cnt g k))) := by rw [dat, if_pos h]
theorem dat_old {k j : Nat} (h : fnd g (g k) k = some j) : dat g (k + 1) = dat g k := by rw [dat, if_neg (by rw [h]; simp)]
theorem dat_tidy (hk : ∀ i, i < n → WideAt.IsKeyLit (g i)) : ∀ k, k ≤ n → Tidy (dat g k)
  | 0, _ => tidy_empty
  | k + 1, h => by
    have ih := dat_tidy hk k (by omega)
    cases e : fnd g (g k) k with
    | none => rw [dat_new e]; exact ih.put (hk k (by omega)) _
    | some j => rw [dat_old e]; exact ih
theorem dat_look (hk : ∀ i, i < n → WideAt.IsKeyLit (g i)) (x : Lit) : ∀ k, k ≤ n →
    (∀ j, fnd g x k = some j → has (dat g k) x = true ∧ ∀ z, (dat g k).atKey x z = .lit (.int .i64 (cnt g j))) ∧ (fnd g x k = none → has (dat g k) x = false)
  | 0, _ => ⟨fun j h => by simp [fnd] at h, fun _ => rfl⟩
  | k + 1, h => by
    obtain ⟨ih1, ih2⟩ := dat_look hk x k (by omega)
    have ht := (dat_tidy hk k (by omega)).isMap
    cases e : fnd g (g k) k with
    | none =>
      rw [dat_new e]
      by_cases ex : x = g k
      · subst ex
        refine ⟨fun j hj => ?_, fun hn => ?_⟩
        · have : fnd g (g k) (k + 1) = some k := fnd_at (by omega) rfl e
          rw [this] at hj
          cases hj
          exact ⟨has_put_same ht (hk k (by omega)) _, fun z => atKey_put_same ht (hk k (by omega)) _ z⟩
        · exact absurd rfl (fnd_none.1 hn k (by omega))
      · have hs : fnd g x (k + 1) = fnd g x k := by
          show (match fnd g x k with | some q => some q | none => if g k = x then some k else none) = _
          cases fnd g x k with
          | none => simp [Ne.symm ex]
          | some q => rfl
        rw [hs]
        refine ⟨fun j hj => ?_, fun hn => ?_⟩
        · obtain ⟨a, b⟩ := ih1 j hj
          exact ⟨by rw [has_put_other ex]; exact a, fun z => by rw [atKey_put_other ex]; exact b z⟩
        · rw [has_put_other ex]; exact ih2 hn
    | some q =>
      rw [dat_old e]
      refine ⟨fun j hj => ?_, fun hn => ih2 (fnd_none.2 fun i hi => fnd_none.1 hn i (by omega))⟩
      cases h0 : fnd g x k with
      | some j' =>
        have := fnd_mono h0 (show k ≤ k + 1 by omega)
        rw [this] at hj
        cases hj
        exact ih1 j h0
      | none =>
        exfalso
        obtain ⟨h1, h2, h3⟩ := fnd_some hj
        have : j = k := by
          rcases Nat.lt_or_ge j k with hlt | hge
          · exact absurd h2 (fnd_none.1 h0 j hlt)
          · omega
        subst this
        obtain ⟨q1, q2, q3⟩ := fnd_some e
        exact fnd_none.1 h0 q q1 (by rw [q2, h2])
theorem dat_size (hk : ∀ i, i < n → WideAt.IsKeyLit (g i)) : ∀ k, k ≤ n → size (dat g k) = cnt g k
  | 0, _ => rfl
  | k + 1, h => by
    have ih := dat_size hk k (by omega)
    have ht := dat_tidy hk k (by omega)
    cases e : fnd g (g k) k with
    | none => rw [dat_new e, cnt_fresh e, size_put ht, (dat_look hk (g k) k (by omega)).2 e]; simp [ih]
    | some j => rw [dat_old e, cnt_old e, ih]

/-! Memory: what stays. -/
/-- The blocks from N on stay. -/
def Stay (N : Nat) (w w' : World) : Prop := ∀ b, N ≤ b → b < w.heap.size → w'.heap[b]? = w.heap[b]?
theorem Stay.refl (N : Nat) (w : World) : Stay N w w := fun _ _ _ => rfl
theorem stay_below {N : Nat} {w w' : World} (h : Below w.heap.size w w') : Stay N w w' := fun b _ hb => h.block b hb
theorem Stay.own {N : Nat} {w w' : World} (h : Stay N w w') {B : Nat} {t : TypeId} {cs : List Value} (ho : Law.Own w B t cs) (hB : N ≤ B) : Law.Own w' B t cs := by
  have hlt := ho.lt
  unfold Law.Own at ho ⊢
  rw [h B hB hlt]; exact ho
theorem Stay.map {N : Nat} {w w' : World} (h : Stay N w w') {P : Program} {k : TypeId} {R : Value → Option (DataW Unit × List MemPlace)} {b n : Nat} {D : DataW Unit} (ho : w.ownsMap P k R b n D) (hB : N ≤ b) : w'.ownsMap P k R b n D := by
  have hlt := ho.lt
  obtain ⟨es, clock, hb, r⟩ := ho
  exact ⟨es, clock, by rw [h b hB hlt]; exact hb, r⟩
/-- What a fact on the world needs: the blocks below N. -/
def Firm (N : Nat) (J : World → Prop) : Prop := ∀ w1 w2 : World, (∀ b, b < N → w2.heap[b]? = w1.heap[b]?) → J w1 → J w2

/-- The first k labels, zeros behind. -/
def cp (vs : List Int) (k : Nat) : List Int := vs.take k ++ List.replicate (vs.length - k) 0
theorem cp_zero (vs : List Int) : cp vs 0 = List.replicate vs.length 0 := by simp [cp]
theorem cp_length (vs : List Int) (k : Nat) (h : k ≤ vs.length) : (cp vs k).length = vs.length := by simp [cp]; omega
theorem cp_all (vs : List Int) : cp vs vs.length = vs := by simp [cp]
theorem take_snoc {l : List Int} {k : Nat} (h : k < l.length) : l.take (k + 1) = l.take k ++ [l.getD k 0] := by
  rw [List.take_succ_eq_append_getElem h]; simp [List.getD, List.getElem?_eq_getElem h]
theorem cp_succ (vs : List Int) (k : Nat) (h : k < vs.length) : cp vs (k + 1) = (cp vs k).set k (vs.getD k 0) := by
  unfold cp
  rw [take_snoc h, List.set_append_right _ _ (by rw [List.length_take]; omega)]
  rw [List.length_take, Nat.min_eq_left (by omega), Nat.sub_self, List.append_assoc]
  congr 1
  rw [show vs.length - k = (vs.length - (k + 1)) + 1 from by omega, List.replicate_succ]
  rfl
end Go.Part
