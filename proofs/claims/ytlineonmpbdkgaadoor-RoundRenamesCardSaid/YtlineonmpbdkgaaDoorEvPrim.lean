/-
  A call that is known by a contract, inside the evaluator: strings.Index at closed strings.
-/
import Derived.Test.YtlineonmpbdkgaaDoorEvU
import Derived.Lib.Index
namespace Go.Ev
open Go Go.RowKit

/-- The place of the first instance, counted from k. -/
def idx (sub : List UInt8) : List UInt8 → Nat → Int
  | [], k => bif sub.isEmpty then (k : Int) else -1
  | b :: l, k => bif sub.isPrefixOf (b :: l) then (k : Int) else idx sub l (k + 1)
theorem idx_eq (sub : List UInt8) : ∀ (l : List UInt8) (k : Nat), idx sub l k = if Lib.index l sub = -1 then -1 else Lib.index l sub + k
  | [], k => by
    unfold idx Lib.index
    cases sub.isEmpty <;> simp
  | b :: l, k => by
    have ih := idx_eq sub l (k + 1)
    have hg := Lib.index_ge l sub
    unfold idx Lib.index
    cases sub.isPrefixOf (b :: l) with
    | true => simp
    | false =>
      simp only [cond_false, Bool.false_eq_true, if_false, beq_iff_eq]
      rw [ih]
      by_cases e : Lib.index l sub = -1
      · simp [e]
      · rw [if_neg e, if_neg e, if_neg (by omega)]
        omega
theorem idx_zero (sub l : List UInt8) : idx sub l 0 = Lib.index l sub := by
  rw [idx_eq]
  by_cases e : Lib.index l sub = -1
  · rw [if_pos e, e]
  · rw [if_neg e]; omega
noncomputable def primIndex : List AV → Hp → Option (AV × Hp)
  | [.str s, .str t], h => bif Nat.blt s.length 4294967281 then some (.int .i64 (idx t s 0), h) else none
  | _, _ => none
theorem prim_index {P : Program} {f : FuncId} {fn : Func} {code : Code} (hf : P.funcs[f]? = some fn) (hb : fn.body = some code) (hn : fn.name ≠ "runtime.NumGoroutine") {w0 : World} {g : Nat} (hg : g < w0.heap.size)
    (hcall : ∀ w : World, w.heap[g]? = w0.heap[g]? → ∀ s t : ByteArray, s.size < 4294967281 → Calls P f #[.string s, .string t] w fun e w' => e = .returned (.int .i64 (Lib.index s.data.toList t.data.toList)) ∧ w' = w)
    {args : List AV} {h h' : Hp} {v : AV} (e : primIndex args h = some (v, h')) {B' : Kp} {w1 : World} (s : Sub (Kp.low w0.heap.size) w0 B' w1) {w : World} {c : Ctx} {args' : List Value} (H : HR B' w1 c h w) (hA : VRs c args args') :
    (callFunc f ⟨args'⟩).run P w = .ok (.enter f ⟨args'⟩) w ∧ CallsIn Fence.wide 0 P f ⟨args'⟩ w (CPost B' w1 c v h') := by
  unfold primIndex at e
  split at e
  · rename_i hh s1 t1
    cases hlt : Nat.blt s1.length 4294967281 with
    | false => rw [hlt] at e; cases e
    | true =>
      rw [hlt] at e
      cases e
      cases hA with
      | cons h1 tl =>
        cases tl with
        | cons h2 tl =>
          cases tl; cases h1; cases h2
          have hs : s1.length < 4294967281 := by rw [Nat.blt_eq] at hlt; exact hlt
          refine ⟨callFunc_enter hf hb hn _ w, callsIn_wide.2 ((hcall w ((H.below.block g (s.more g hg)).trans (s.kept.block g hg)) ⟨⟨s1⟩⟩ ⟨⟨t1⟩⟩ hs).mono fun ed w' hp => ?_)⟩
          obtain ⟨rfl, rfl⟩ := hp
          exact ⟨c, Ctx.le_refl c, by rw [idx_zero]; exact .int _ _, H⟩
  · cases e
end Go.Ev
