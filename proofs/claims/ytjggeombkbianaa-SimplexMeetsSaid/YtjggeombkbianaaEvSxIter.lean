/-
  slices.Collect(slices.Values(l)): a new list with the members of l.
-/
import Derived.Test.YtjggeombkbianaaEvSxRefOf
import Derived.RangeFuncNested
import Derived.RangeFuncBound
import Derived.RangeFuncCalls
import Derived.RangeFuncLeaves
import Derived.RangeFuncWrites
import Derived.RangeFuncBox
import Derived.Shelf.Abstract
import Derived.OwnWalkIn
import Derived.TacticsInMore
import Derived.LoopNIn
import Derived.LoopIn
import Derived.Maps.AppendAt
namespace Go.Proofs.Ytjggeombkbianaa.Sx
open Go Go.RowKit Go.Law Go.Sx

attribute [local go_sem] Oper.semAt_some

/-- The first k members. -/
def upto (A : List V) (k : Nat) : List V := (List.range k).map fun j => vx A j
theorem upto_succ (A : List V) (k : Nat) : upto A (k + 1) = upto A k ++ [vx A k] := by simp [upto, List.range_succ]
theorem upto_length (A : List V) (k : Nat) : (upto A k).length = k := by simp [upto]
theorem upto_all (A : List V) : upto A A.length = A := by
  apply List.ext_getElem
  · simp [upto]
  · intro i h1 h2
    simp [upto, vx, h2]
set_option maxRecDepth 100000 in
set_option maxHeartbeats 2000000 in
theorem values1_in (F : Fence) (n : Nat) (hf : F.fn 86) (hro : F.round = none) (hn : 1 ≤ n) (l Bs n₀ b off len cap : Nat) (a : Option Addr) (ha : 0 < len → a = some ⟨b, off, none⟩) (A : List V) (hlen : len ≤ 4096) (hb : 0 < len → b < n₀) (J Jx : List V → World → Prop) (W : World)
    (hJ : AbidesFrom W.heap.size J) (hn₀ : n₀ ≤ W.heap.size)
    (hY : ∀ pre x W1, J pre W1 → pre.length < len → YieldAt F (n - 1) Try.prog l #[.agg #[.int .i64 x.1, .int .i64 x.2]] W1 fun e W' =>
      (e = .returned (.bool true) ∧ J (pre ++ [x]) W' ∧ Below n₀ W1 W') ∨ (e = .returned (.bool false) ∧ Jx (pre ++ [x]) W'))
    (hBs : W.cell? ⟨Bs, 0, none⟩ = some (.slice a len cap)) (hc : VsAt W b off len A) (h0 : J [] W) :
    CallsIn F n Try.prog 86 #[.func (.yield l) #[] #[], .pointer (some ⟨Bs, 0, none⟩)] W fun e W' => (∃ v, e = .returned v) ∧
      ((∃ ys, ys = upto A len ∧ J ys W') ∨ (∃ pre, (∃ k, k ≤ len ∧ pre = upto A k) ∧ Jx pre W')) := by
  refine callsIn_of_wp Try.func86 rfl hf ?_ hro
  simp only [Try.ntmps86, List.size_toArray, List.length_cons, List.length_nil, Nat.reduceAdd, Nat.reduceSub, Array.replicate_succ, Array.replicate_zero, List.push_toArray, List.append_toArray, List.nil_append, List.cons_append]
  gi_wp2
  gi_loopw [7] (fun i wr => ∃ k : Nat, k ≤ len ∧ i = .int .i64 k ∧ J (upto A k) wr ∧ Below n₀ W wr) (fun i _ => len - (intOf i).toNat)
  case atStart => exact ⟨0, Nat.zero_le _, rfl, h0, Below.refl _ _⟩
  case round =>
    obtain ⟨k, hk, rfl, hJs, hnx⟩ := hrel
    by_cases hlt : k < len
    · obtain rfl := ha (by omega)
      have hbb := hb (by omega)
      have c0 := (hnx.cell (p := ⟨b, off + k * 2, none⟩) hbb).trans (hc k hlt).1
      have c1 := (hnx.cell (p := ⟨b, off + k * 2 + 1, none⟩) hbb).trans (hc k hlt).2
      have hup := upto_succ A k
      obtain ⟨x, hx⟩ : ∃ x, vx A k = x := ⟨_, rfl⟩
      rw [hx] at c0 c1 hup
      clear hx
      have hle : n₀ ≤ wr.heap.size := Nat.le_trans hn₀ hnx.size
      obtain ⟨x, y⟩ := x
      simp only at c0 c1
      have hW1 := hJ _ wr (wr.alloc (.cells #[.int .i64 x, .int .i64 y] 56)) none hJs (World.grownBy_alloc wr _ none) (fun r e => by cases e)
      have hKw : Below n₀ W (wr.alloc (.cells #[.int .i64 x, .int .i64 y] 56)) := hnx.alloc hle _
      obtain ⟨r0, r1⟩ := row2_new wr x y
      obtain ⟨fn, tmps, assign, body, hy, hR⟩ := hY _ (x, y) _ hW1 (by rw [upto_length]; exact hlt)
      simp only at hy
      gi_wp2
      refine hR.mono ?_
      rintro e W3 (⟨rfl, hJ3, hk3⟩ | ⟨rfl, hJx3⟩)
      · have hK3 := hKw.trans hk3
        clear hk3 hKw hW1 hR hy c0 c1 r0 r1
        gi_wp2
        go_roundw
        case rel => exact ⟨k + 1, by omega, by go_num, by rw [hup]; exact hJ3, hK3⟩
        case measure => simp [intOf]; omega
      · gi_wp2
        refine bodyPost_ret (results_none rfl _ _ _) rfl ?_
        exact ⟨⟨_, rfl⟩, .inr ⟨_, ⟨k + 1, by omega, hup.symm⟩, hJx3⟩⟩
    · obtain rfl : k = len := by omega
      gi_wp2
      go_end0
      exact ⟨⟨_, rfl⟩, .inl ⟨_, rfl, hJs⟩⟩
theorem values_stops (F : Fence) (n : Nat) (hf : F.fn 86) (hro : F.round = none) (hn : 1 ≤ n) (Bs n₀ b off len cap : Nat) (a : Option Addr) (ha : 0 < len → a = some ⟨b, off, none⟩) (A : List V) (hA : A.length = len) (hlen : len ≤ 4096) (w : World) (hB : Bs < w.heap.size) (hn₀ : n₀ ≤ w.heap.size) (hb : 0 < len → b < n₀)
    (hBs : w.cell? ⟨Bs, 0, none⟩ = some (.slice a len cap)) (hc : VsAt w b off len A) :
    SeqStopsK F n Try.prog 86 #[.pointer (some ⟨Bs, 0, none⟩)] (fun x : V => #[.agg #[.int .i64 x.1, .int .i64 x.2]]) (Below n₀) (fun ys => ys = A) (fun _ => True) len w := fun l J Jx W hW hJ _ hY h0 => by
  have hc' := (hW.cell (p := ⟨Bs, 0, none⟩) hB).trans hBs
  refine (values1_in F n hf hro hn l Bs n₀ b off len cap a ha A hlen hb J Jx W hJ (Nat.le_trans hn₀ hW.size) hY hc' (fun k hk => ⟨(hW.cell (p := ⟨b, off + k * 2, none⟩) (Nat.lt_of_lt_of_le (hb (by omega)) hn₀)).trans (hc k hk).1, (hW.cell (p := ⟨b, off + k * 2 + 1, none⟩) (Nat.lt_of_lt_of_le (hb (by omega)) hn₀)).trans (hc k hk).2⟩) h0).mono ?_
  rintro e W' ⟨he, ⟨ys, rfl, hj⟩ | ⟨pre, _, hj⟩⟩
  · exact ⟨he, .inl ⟨_, by rw [← hA]; exact upto_all A, hj⟩⟩
  · exact ⟨he, .inr ⟨_, trivial, hj⟩⟩
theorem values_call (a : Option Addr) (len cap : Nat) (w : World) :
    Calls Try.prog 72 #[.slice a len cap] w fun e w' => e = .returned (.func (.func 86) #[] #[.pointer (some ⟨w.heap.size, 0, none⟩)]) ∧ w' = w.alloc (.cells #[.slice a len cap] 22) := by
  go_enter Try.func72, Try.ntmps72
  go_wp2
  go_ret
  exact ⟨rfl, rfl⟩
/-- A list of the call's own. -/
def OwnPost (A : List V) (W : World) (e : Ending) (w' : World) : Prop := ∃ v, e = .returned v ∧ w'.ownsRow W.heap.size 56 2 v A.length (rowV A) ∧ Below W.heap.size W w'
theorem ownsRow_succ {w : World} {base size n : Nat} {e : TypeId} {v : Value} {xs : List Value} (h : w.ownsRow base e size v (n + 1) xs) : ∃ g cap, v = .slice (some ⟨g, 0, none⟩) (n + 1) cap := by
  rcases h.2 with ⟨_, h0⟩ | ⟨g, cap, cur, hv, _⟩
  · omega
  · exact ⟨g, cap, hv⟩
set_option maxRecDepth 100000 in
set_option maxHeartbeats 4000000 in
theorem appendSeq_in (F : Fence) (n : Nat) (hf : F.fn 88) (hg : F.fn 86) (hro : F.round = none) (hn : 3 ≤ n) (Bs b off len cap : Nat) (a : Option Addr) (ha : 0 < len → a = some ⟨b, off, none⟩) (A : List V) (hA : A.length = len) (hlen : len ≤ 4096) (w : World) (hBs : Bs < w.heap.size) (hb : 0 < len → b < w.heap.size)
    (hc : w.cell? ⟨Bs, 0, none⟩ = some (.slice a len cap)) (hI : VsAt w b off len A) :
    CallsIn F n Try.prog 88 #[.slice none 0 0, .func (.func 86) #[] #[.pointer (some ⟨Bs, 0, none⟩)]] w (OwnPost A w) := by
  have h1 : 1 ≤ n := by omega
  obtain ⟨i0, hi, hz0, hz1, hz2⟩ := info_parts info56
  refine callsIn_of_wp_marks Try.func88 rfl hf ?_ hro
  simp only [Try.ntmps88, List.size_toArray, List.length_cons, List.length_nil, Nat.reduceAdd, Nat.reduceSub, Array.replicate_succ, Array.replicate_zero, List.push_toArray, List.append_toArray, List.nil_append, List.cons_append]
  gi_wp2
  have bS := Boxed.new w 22 (.slice none 0 0)
  have hB0 : Below w.heap.size w (w.alloc (.cells #[.slice none 0 0] 22)) := (Below.refl _ w).alloc (Nat.le_refl _) _
  refine wpIn_rangeFunc_ownH hro h1 (gf := 86) (lb := #[.pointer (some ⟨Bs, 0, none⟩)]) rfl hg (enters_of Try.func86 (by kernel_rfl) rfl)
    (values_stops F (n - 1) hg hro (by omega) Bs w.heap.size b off len cap a ha A hA hlen _ (by simp; omega) (by simp) hb ((hB0.cell (p := ⟨Bs, 0, none⟩) hBs).trans hc) (fun k hk => ⟨(hB0.cell (p := ⟨b, off + k * 2, none⟩) (hb (by omega))).trans (hI k hk).1, (hB0.cell (p := ⟨b, off + k * 2 + 1, none⟩) (hb (by omega))).trans (hI k hk).2⟩)) belowK_t (belowK_b (by simp)) (Below.refl _ _) (fun _ => rfl)
    (fun (pre : List V) W => (∃ v, Boxed W w.heap.size 22 v ∧ W.ownsRow w.heap.size 56 2 v pre.length (rowV pre) ∧ True) ∧ Below w.heap.size w W)
    (fun _ _ _ => False)
    (OwnFrom.and (Own.from (holdsRow_own w.heap.size w.heap.size 22 56 2 (fun (pre : List V) => pre.length) (fun (pre : List V) => rowV pre) (fun _ _ => True)) _) (ownFrom_below (Nat.le_refl _) (by simp)))
    (fun _ _ _ _ _ hs _ _ => hs)
    ⟨⟨_, bS, World.ownsRow_nil _ _ _ _, trivial⟩, hB0⟩
    (fun x a' W => ∃ p, w.heap.size < p ∧ W.heap[p]? = some (.cells #[.int .i64 x.1, .int .i64 x.2] 56 (0, 0)) ∧ a' = { tmps := #[.slice none 0 0, .func (.func 86) #[] #[.pointer (some ⟨Bs, 0, none⟩)], .pointer (some ⟨w.heap.size, 0, none⟩), undef, .slice none 0 0, .pointer (some ⟨p, 0, none⟩), .func (.func 86) #[] #[.pointer (some ⟨Bs, 0, none⟩)], .agg #[.int .i64 x.1, .int .i64 x.2], undef, undef, undef, undef, undef], defers := [] })
    (fun x a' _ X Y row hs hg hr => by
      obtain ⟨p, e1, e2, e3⟩ := hs
      refine ⟨p, e1, (hg.block p (Array.getElem?_eq_some_iff.1 e2).1 (fun e' => ?_)).trans e2, e3⟩
      obtain ⟨_, o, ho, hco⟩ := hr p e'.symm
      rw [e2] at ho; cases ho; cases hco)
    ?assign ?body ?done ?stop
  case assign =>
    rintro l pre x W K ⟨⟨v, hv, hrow, _⟩, hB⟩ hK
    have hlt := hv.lt
    gi_wp2
    exact hK _ _ ((KeepsOthers.alloc _ _).from _) ((Below.refl _ W).alloc hB.size _) ⟨⟨v, hv.alloc _, hrow.alloc _, trivial⟩, hB.alloc hB.size _⟩ ⟨W.heap.size, hlt, World.alloc_heap_new W _, rfl⟩
  case body =>
    rintro l pre x a' W hl ⟨r, hr⟩ ⟨⟨v, hv, hrow, _⟩, hB⟩ ⟨p, hp, hpx, rfl⟩ hlt
    have hvc := hv.cell
    have hle := hB.size
    have hsn := rowV_snoc pre x
    obtain ⟨x, y⟩ := x
    simp only at hpx hsn
    have e0 : W.cell? ⟨p, 0, none⟩ = some (.int .i64 x) := by simp [World.cell?, hpx]
    have e1 : W.cell? ⟨p, 1, none⟩ = some (.int .i64 y) := by simp [World.cell?, hpx]
    gi_wp2_with (gi_at_builtin; refine wpListIn_append_own _ rfl _ _ 22 rfl w.heap.size 56 i0 (.agg #[.int .i64 0, .int .i64 0]) 2 16 Try.underlying22 hi hz0 hz1 hz2 rfl (by decide) _ _ _ rfl (hrow.alloc _) ⟨W.heap.size, 0, none⟩ 1 1 [.int .i64 x, .int .i64 y] rfl rfl (cells_at rfl _ _) pair_one (by unfold maxLen; omega) (by omega) (by simp; omega) ?_; intro v' w1 hown' hgrow _; obtain ⟨g', cap', rfl⟩ := ownsRow_succ hown'; obtain ⟨hv1, hv2, hr2, hk2, hb2⟩ := hv.appended (by decide) hrow hB.size (Nat.le_refl _) hown' hgrow; have hc1 := hv1.cell; have hf1 := hv1.frozen)
    have hln : (pre ++ [((x, y) : V)]).length = pre.length + 1 := by simp
    rw [← hln, ← hsn] at hr2
    refine ⟨hk2.from _, hb2, ⟨_, hv2, ?_⟩, hB.trans hb2⟩
    first | exact ⟨hr2, trivial⟩ | exact hr2 | (rw [hln] at hr2 ⊢; exact ⟨hr2, trivial⟩) | (rw [hln] at hr2 ⊢; exact hr2)
  case done =>
    rintro D ys W hD rfl ⟨⟨v, hv, hrow, _⟩, hB⟩ hK
    have hvc := hv.cell
    gi_wp2
    refine ⟨by simp, .inl ⟨_, _, rfl, run_takeDeferred hK, ?_⟩⟩
    refine ⟨_, results_tmp rfl _ _ _, v, rfl, hrow.kept (grownBy_putObj' W D (.deferred none)) (by
      rcases hrow.2 with ⟨rfl, _⟩ | ⟨g, cap, cur, rfl, _, hgb, _⟩
      · exact .inl rfl
      · refine .inr fun e => ?_
        cases e
        rw [hK] at hgb; cases hgb), hB.trans (belowK_b (w := w) (Nat.le_refl _) W D _ _ (by simp at hD; omega) hK rfl rfl)⟩
  case stop =>
    rintro D c pre W _ _ h _
    exact h.elim
end Go.Proofs.Ytjggeombkbianaa.Sx
