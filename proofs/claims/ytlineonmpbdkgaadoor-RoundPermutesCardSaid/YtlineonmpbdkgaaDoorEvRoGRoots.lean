/-
  Roots of graphs.
-/
import Derived.Test.YtlineonmpbdkgaaDoorEvRoGRefProd
import Derived.Test.YtlineonmpbdkgaaDoorEvGPlain
namespace Go.Proofs.YtlineonmpbdkgaaDoor.Graph
open Go Go.RowKit Go.Graph Go.Law
open Go.Proofs.YtlineonmpbdkgaaDoor.Col

end Go.Proofs.YtlineonmpbdkgaaDoor.Graph
namespace Go.Proofs.YtlineonmpbdkgaaDoor.Graph
open Go Go.RowKit Go.Graph Go.Law
open Go.Proofs.YtlineonmpbdkgaaDoor.Col

/-- Five rows, of which the first k are those of g, the others those of r. -/
def mix (g r : Nat → Int) (k : Nat) : List Int := (List.range 5).map fun i => if i < k then g i else r i
theorem mix_length (g r : Nat → Int) (k : Nat) : (mix g r k).length = 5 := by simp [mix]
theorem mix_get (g r : Nat → Int) (k i : Nat) (h : i < 5) : (mix g r k)[i]? = some (if i < k then g i else r i) := by simp [mix, h]
theorem mix_zero (g r : Nat → Int) : mix g r 0 = [r 0, r 1, r 2, r 3, r 4] := rfl
theorem mix_set (g r : Nat → Int) (k : Nat) : (mix g r k).set k (g k) = mix g r (k + 1) := by
  apply List.ext_getElem?
  intro i
  by_cases hi : i < 5
  · rw [mix_get g r (k + 1) i hi]
    by_cases hik : i = k
    · subst hik
      rw [List.getElem?_set_self (by rw [mix_length]; exact hi), if_pos (by omega)]
    · rw [List.getElem?_set_ne (by omega), mix_get g r k i hi]
      by_cases h : i < k
      · rw [if_pos h, if_pos (by omega)]
      · rw [if_neg h, if_neg (by omega)]
  · rw [List.getElem?_eq_none (by rw [List.length_set, mix_length]; omega), List.getElem?_eq_none (by rw [mix_length]; omega)]
theorem mix_cell (n : Int) (g r : Nat → Int) (k : Nat) (h : k < 5) : (Value.int .i64 n :: (mix g r k).map (Value.int .i64))[1 + k]? = some (.int .i64 (r k)) := by
  rw [Nat.add_comm, List.getElem?_cons_succ, List.getElem?_map, mix_get g r k k h, if_neg (by omega)]; rfl
theorem mix_row (n : Int) (g r : Nat → Int) (k : Nat) : (Value.int .i64 n :: (mix g r k).map (Value.int .i64)).set (1 + k) (.int .i64 (g k)) = Value.int .i64 n :: (mix g r (k + 1)).map (Value.int .i64) := by
  rw [Nat.add_comm, List.set_cons_succ, ← List.map_set, mix_set g r k]
theorem mix_all (g r : Nat → Nat) (n : Nat) (h : ∀ i, n ≤ i → r i = g i) : mix (fun i => (g i : Int)) (fun i => (r i : Int)) n = [(g 0 : Int), (g 1 : Int), (g 2 : Int), (g 3 : Int), (g 4 : Int)] := by
  have e : mix (fun i => (g i : Int)) (fun i => (r i : Int)) n = (List.range 5).map fun i => (g i : Int) := by
    unfold mix
    apply List.map_congr_left
    intro i _
    split
    · rfl
    · rename_i hlt; show (r i : Int) = g i; rw [h i (by omega)]
  rw [e]; rfl
end Go.Proofs.YtlineonmpbdkgaaDoor.Graph
namespace Go.Proofs.YtlineonmpbdkgaaDoor.Graph
open Go Go.RowKit Go.Graph Go.Law
open Go.Proofs.YtlineonmpbdkgaaDoor.Col

/-- A graph is well-formed, or has an error. -/
theorem wf_or (n r0 r1 r2 r3 r4 : Int) : (∃ (k : Nat) (r : Nat → Nat), WF k r ∧ n = k ∧ r0 = r 0 ∧ r1 = r 1 ∧ r2 = r 2 ∧ r3 = r 3 ∧ r4 = r 4) ∨ ∃ c : Int, c ≠ 0 ∧ (∀ w : World, Calls Tryd.prog 34 #[.agg #[.int .i64 n, .int .i64 r0, .int .i64 r1, .int .i64 r2, .int .i64 r3, .int .i64 r4]] w fun e w' => e = .returned (.int .i64 c) ∧ Below w.heap.size w w') ∧ (∀ w : World, Calls Tryd.prog 36 #[.agg #[.int .i64 n, .int .i64 r0, .int .i64 r1, .int .i64 r2, .int .i64 r3, .int .i64 r4]] w fun e w' => e = .returned (.int .i64 c) ∧ Below w.heap.size w w') := by
  obtain ⟨c, h1, h2, h3, h4⟩ := checks' n r0 r1 r2 r3 r4
  by_cases hc : c = 0
  · subst hc
    obtain ⟨ha, hb⟩ := h1 rfl
    obtain ⟨k, rfl⟩ := Int.eq_ofNat_of_zero_le (show 0 ≤ n by omega)
    obtain ⟨r, hr, e0, e1, e2, e3, e4⟩ := wf_of (n := k) (by omega) (by omega) (h4 ha hb).symm
    exact .inl ⟨k, r, hr, rfl, e0, e1, e2, e3, e4⟩
  · exact .inr ⟨c, hc, h2, h3⟩
end Go.Proofs.YtlineonmpbdkgaaDoor.Graph
namespace Go.Proofs.YtlineonmpbdkgaaDoor.Graph
open Go Go.RowKit Go.Graph Go.Law
open Go.Proofs.YtlineonmpbdkgaaDoor.Col

theorem and_nat (x y : Nat) (hx : x < 32) (hy : y < 32) : bits BinOp.and IntKind.i64 (x : Int) (y : Int) = ((x &&& y : Nat) : Int) := i64_and_nat x y (by omega) (by omega)
theorem arr_slice (B o : Nat) : ∀ n : Nat, n ≤ 5 → ∀ w : World, (Instr.sliceAt 22 (.pointer (some ⟨B, o, none⟩)) none (some (.int .i64 (n : Int))) none).run Tryd.prog w = .ok (.slice (some ⟨B, o, none⟩) n 5) w
  | 0, _ => fun _ => by kernel_rfl
  | 1, _ => fun _ => by kernel_rfl
  | 2, _ => fun _ => by kernel_rfl
  | 3, _ => fun _ => by kernel_rfl
  | 4, _ => fun _ => by kernel_rfl
  | 5, _ => fun _ => by kernel_rfl
theorem kern_zero (n : Nat) (a : Nat → Nat) : (2 : Int) ^ n - 1 = ((kernTo n a 0 : Nat) : Int) := by
  have h := Nat.pow_pos (a := 2) (n := n) (by omega)
  have e : ((2 ^ n - 1 : Nat) : Int) = ((2 ^ n : Nat) : Int) - 1 := by omega
  show _ = ((2 ^ n - 1 : Nat) : Int)
  rw [e]; push_cast; rfl
end Go.Proofs.YtlineonmpbdkgaaDoor.Graph
namespace Go.Proofs.YtlineonmpbdkgaaDoor.Graph
open Go Go.RowKit Go.Graph Go.Law
open Go.Proofs.YtlineonmpbdkgaaDoor.Col

/-- The cells of a graph. -/
def gl (n : Nat) (r : Nat → Nat) : List Value := [.int .i64 n, .int .i64 (r 0), .int .i64 (r 1), .int .i64 (r 2), .int .i64 (r 3), .int .i64 (r 4)]
theorem own_set6 {w : World} {B : Nat} {t : TypeId} {x0 x1 x2 x3 x4 x5 : Value} (h : Own w B t [x0, x1, x2, x3, x4, x5]) (y0 y1 y2 y3 y4 y5 : Value) :
    Own ((((((w.setCell ⟨B, 0, none⟩ y0).setCell ⟨B, 1, none⟩ y1).setCell ⟨B, 2, none⟩ y2).setCell ⟨B, 3, none⟩ y3).setCell ⟨B, 4, none⟩ y4).setCell ⟨B, 5, none⟩ y5) B t [y0, y1, y2, y3, y4, y5] :=
  (((((h.set 0 y0).set 1 y1).set 2 y2).set 3 y3).set 4 y4).set 5 y5
theorem below_set6 {w w' : World} {B S : Nat} (h : Below S w w') (hB : S ≤ B) (y0 y1 y2 y3 y4 y5 : Value) :
    Below S w ((((((w'.setCell ⟨B, 0, none⟩ y0).setCell ⟨B, 1, none⟩ y1).setCell ⟨B, 2, none⟩ y2).setCell ⟨B, 3, none⟩ y3).setCell ⟨B, 4, none⟩ y4).setCell ⟨B, 5, none⟩ y5) :=
  (((((h.setCell hB y0).setCell hB y1).setCell hB y2).setCell hB y3).setCell hB y4).setCell hB y5
end Go.Proofs.YtlineonmpbdkgaaDoor.Graph
