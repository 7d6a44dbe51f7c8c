/-
  The order of graphs: the program's and the reference's.
-/
import Derived.Test.YtgkgdobmiejdhaaEvTGCheck
import Derived.StillTailTactics
import Derived.Laws.NewBlocks
import Derived.ChangeKeysEq
import Derived.Laws.StructEq
namespace Go.Proofs.Ytgkgdobmiejdhaa.Graph
open Go Go.RowKit Go.Graph Go.Law
open Go.Proofs.Ytgkgdobmiejdhaa.Col

theorem arr_eq_d (d : Nat) (r0 r1 r2 r3 r4 s0 s1 s2 s3 s4 : Int) (w : World) : (Op.equalIn (d + 1 + 1) 22 (.agg #[.int .i64 r0, .int .i64 r1, .int .i64 r2, .int .i64 r3, .int .i64 r4]) (.agg #[.int .i64 s0, .int .i64 s1, .int .i64 s2, .int .i64 s3, .int .i64 s4])).run Try.prog w = .ok (decide (r0 = s0 ∧ r1 = s1 ∧ r2 = s2 ∧ r3 = s3 ∧ r4 = s4)) w := by
  have hs : (Try.prog.info? 3).isSome = true := by kernel_rfl
  obtain ⟨i, hi⟩ := Option.isSome_iff_exists.1 hs
  have hc : Try.prog.cellsOf 3 = 1 := by kernel_rfl
  rw [run_equalIn_array w (d + 1) _ _ Try.underlying22 hi, hc]
  have hr : List.range 5 = [0, 1, 2, 3, 4] := by decide
  rw [hr]
  simp only [Op.eqItems, Sem.run_bind]
  simp [part, run_equalIn_int _ d 3 _ _ _ _ Try.underlying3]
  by_cases h0 : r0 = s0 <;> by_cases h1 : r1 = s1 <;> by_cases h2 : r2 = s2 <;> by_cases h3 : r3 = s3 <;> by_cases h4 : r4 = s4 <;> simp [h0, h1, h2, h3, h4]
theorem arr_eq (r0 r1 r2 r3 r4 s0 s1 s2 s3 s4 : Int) (w : World) : (Op.equalIn 9999 22 (.agg #[.int .i64 r0, .int .i64 r1, .int .i64 r2, .int .i64 r3, .int .i64 r4]) (.agg #[.int .i64 s0, .int .i64 s1, .int .i64 s2, .int .i64 s3, .int .i64 s4])).run Try.prog w = .ok (decide (r0 = s0 ∧ r1 = s1 ∧ r2 = s2 ∧ r3 = s3 ∧ r4 = s4)) w :=
  arr_eq_d 9997 r0 r1 r2 r3 r4 s0 s1 s2 s3 s4 w
/-- The cells of two graphs that lie in boxes. -/
theorem cell_fst (w : World) (n r0 r1 r2 r3 r4 : Int) (t : TypeId) (o : Obj) : ∀ k : Nat, k < 5 → ((w.alloc (.cells #[.int .i64 n, .int .i64 r0, .int .i64 r1, .int .i64 r2, .int .i64 r3, .int .i64 r4] t)).alloc o).cell? ⟨w.heap.size, 1 + k, none⟩ = some (.int .i64 ([r0, r1, r2, r3, r4].getD k 0)) := by
  intro k hk
  rw [World.cell?_alloc_past _ _ _ (by show w.heap.size < (w.heap.push _).size; rw [Array.size_push]; omega)]
  exact cell_at w n r0 r1 r2 r3 r4 t k hk
theorem cell_snd (w : World) (n r0 r1 r2 r3 r4 : Int) (t : TypeId) (o : Obj) : ∀ k : Nat, k < 5 → ((w.alloc o).alloc (.cells #[.int .i64 n, .int .i64 r0, .int .i64 r1, .int .i64 r2, .int .i64 r3, .int .i64 r4] t)).cell? ⟨w.heap.size + 1, 1 + k, none⟩ = some (.int .i64 ([r0, r1, r2, r3, r4].getD k 0)) := by
  intro k hk
  have := cell_at (w.alloc o) n r0 r1 r2 r3 r4 t k hk
  have e : (w.alloc o).heap.size = w.heap.size + 1 := by show (w.heap.push _).size = _; rw [Array.size_push]
  rwa [e] at this
theorem size_alloc (w : World) (o : Obj) : (w.alloc o).heap.size = w.heap.size + 1 := by show (w.heap.push _).size = _; rw [Array.size_push]
theorem quiet_pure {P : Program} {f : FuncId} {args : Array Value} {w : World} {a n : Nat} {v : Value}
    (h : ∀ w : World, Calls P f args w fun e w' => e = .returned v ∧ w = w') :
    Calls P f args (w.drewN (a + n)) fun e w'' => e = .returned v ∧ ∃ m, w'' = w.drewN (a + m) :=
  (h _).mono fun _ _ ⟨he, hw⟩ => ⟨he, n, hw.symm⟩
theorem lex_ne {x y : Int} {xs ys : List Int} (h : x ≠ y) : lex (x :: xs) (y :: ys) = cmp x y := by
  rw [lex_cons, if_neg (fun e => h (cmp_zero.1 e))]
theorem lex_same {x : Int} {xs ys : List Int} : lex (x :: xs) (x :: ys) = lex xs ys := by
  rw [lex_cons, if_pos (cmp_zero.2 rfl)]
theorem lex_step {R S : List Int} {k : Nat} (h1 : k < R.length) (h2 : k < S.length) (h : R.take k = S.take k) :
    lex (R.drop k) (S.drop k) = (if cmp (R.getD k 0) (S.getD k 0) = 0 then lex (R.drop (k + 1)) (S.drop (k + 1)) else cmp (R.getD k 0) (S.getD k 0)) ∧ (cmp (R.getD k 0) (S.getD k 0) = 0 → R.take (k + 1) = S.take (k + 1)) := by
  constructor
  · rw [drop_cons h1, drop_cons h2, lex_cons]
  · intro e
    have e := cmp_zero.1 e
    simp only [List.getD, List.getElem?_eq_getElem h1, List.getElem?_eq_getElem h2, Option.getD_some] at e
    rw [List.take_add_one, List.take_add_one, h, List.getElem?_eq_getElem h1, List.getElem?_eq_getElem h2, e]
end Go.Proofs.Ytgkgdobmiejdhaa.Graph
