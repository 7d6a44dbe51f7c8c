/-
  RoundChecks answers true.
-/
import Derived.Test.YtlineonmpbdkgaaDoorEvRoCompare
import Derived.Deep.Cut
namespace Go.Proofs.YtlineonmpbdkgaaDoor.Graph
open Go Go.RowKit Go.Graph Go.Law Go.Ev
open Go.Proofs.YtlineonmpbdkgaaDoor.Col
open Go.Proofs.YtlineonmpbdkgaaDoor.Ev (tabs Len awake)

theorem block_lt {w : World} {b : Nat} {o : Obj} (h : w.heap[b]? = some o) : b < w.heap.size := by
  by_cases hb : b < w.heap.size
  · exact hb
  · rw [Array.getElem?_eq_none (by omega)] at h; cases h
theorem _root_.Go.Ev.Held.below {W w : World} {ts : List Tab} (H : Held W ts) (hb : Below W.heap.size W w) : Held w ts := fun t ht => by
  obtain ⟨cs, fz, h, h3, h4⟩ := H t ht
  exact ⟨cs, fz, by rw [hb.block _ (block_lt h)]; exact h, h3, h4⟩
theorem len_below {W w : World} (H : Len W) (hb : Below W.heap.size W w) : Len w := by
  obtain ⟨m, hm⟩ := H
  exact ⟨m, (hb.cell (p := ⟨0, 0, none⟩) (cell_lt hm)).trans hm⟩
theorem still_true {w : World} {e0 e1 : TypeId} (HH : Held w (tabs e0 e1)) (HM : Len w) {W : World} (hb : Below w.heap.size w W) : Calls Tryd.prog 13 #[] W fun e w' => e = .returned (.bool true) ∧ Below W.heap.size W w' := awake (HH.below hb) (len_below HM hb)
set_option maxRecDepth 100000 in
set_option maxHeartbeats 4000000 in
theorem roundChecks_walk {w : World} {e0 e1 : TypeId} (hH : Held w (tabs e0 e1)) (hM : Len w) (n r0 r1 r2 r3 r4 f m s0 s1 s2 s3 s4 g : Int) :
    Calls Tryd.prog 3 #[.agg #[.int .i64 n, .int .i64 r0, .int .i64 r1, .int .i64 r2, .int .i64 r3, .int .i64 r4, .int .i64 f], .agg #[.int .i64 m, .int .i64 s0, .int .i64 s1, .int .i64 s2, .int .i64 s3, .int .i64 s4, .int .i64 g]] w fun e w' => e = .returned (.bool true) ∧ Below w.heap.size w w' := by
  have HH := Lib.hid hH
  have HM := Lib.hid hM
  clear hH hM
  have HC1 := Lib.hid (round_check n r0 r1 r2 r3 r4 f)
  have HC2 := Lib.hid (rround_check n r0 r1 r2 r3 r4 f)
  have HQ1 := Lib.hid (compare7 n r0 r1 r2 r3 r4 f m s0 s1 s2 s3 s4 g)
  have HQ2 := Lib.hid (rcompare7 n r0 r1 r2 r3 r4 f m s0 s1 s2 s3 s4 g)
  have HB := Lib.hid (below_two w n r0 r1 r2 r3 r4 f m s0 s1 s2 s3 s4 g)
  have HR := Lib.hid (show Row7 ((w.alloc (.cells #[.int .i64 n, .int .i64 r0, .int .i64 r1, .int .i64 r2, .int .i64 r3, .int .i64 r4, .int .i64 f] 26)).alloc (.cells #[.int .i64 m, .int .i64 s0, .int .i64 s1, .int .i64 s2, .int .i64 s3, .int .i64 s4, .int .i64 g] 26)) w.heap.size n r0 r1 r2 r3 r4 f ∧ Row7 ((w.alloc (.cells #[.int .i64 n, .int .i64 r0, .int .i64 r1, .int .i64 r2, .int .i64 r3, .int .i64 r4, .int .i64 f] 26)).alloc (.cells #[.int .i64 m, .int .i64 s0, .int .i64 s1, .int .i64 s2, .int .i64 s3, .int .i64 s4, .int .i64 g] 26)) (w.heap.size + 1) m s0 s1 s2 s3 s4 g from ⟨row7_alloc (row7_new w n r0 r1 r2 r3 r4 f) _, by have := row7_new (w.alloc (.cells #[.int .i64 n, .int .i64 r0, .int .i64 r1, .int .i64 r2, .int .i64 r3, .int .i64 r4, .int .i64 f] 26)) m s0 s1 s2 s3 s4 g; rw [size_alloc] at this; exact this⟩)
  generalize lex [n, r0, r1, r2, r3, r4, f] [m, s0, s1, s2, s3, s4, g] = q at *
  generalize rcheck n [r0, r1, r2, r3, r4] f = c at *
  go_enter Tryd.func3, Tryd.ntmps3
  go_wp2
  generalize hW2 : World.alloc (World.alloc w _) _ = W2 at *
  have hsd := HR.out
  go_region_held3 (fun z : World => (z.cell? ⟨w.heap.size, 0, none⟩ = some (.int .i64 n) ∧ z.cell? ⟨w.heap.size, 1, none⟩ = some (.int .i64 r0) ∧ z.cell? ⟨w.heap.size, 2, none⟩ = some (.int .i64 r1) ∧ z.cell? ⟨w.heap.size, 3, none⟩ = some (.int .i64 r2) ∧ z.cell? ⟨w.heap.size, 4, none⟩ = some (.int .i64 r3) ∧ z.cell? ⟨w.heap.size, 5, none⟩ = some (.int .i64 r4) ∧ z.cell? ⟨w.heap.size, 6, none⟩ = some (.int .i64 f)) ∧ (z.cell? ⟨w.heap.size + 1, 0, none⟩ = some (.int .i64 m) ∧ z.cell? ⟨w.heap.size + 1, 1, none⟩ = some (.int .i64 s0) ∧ z.cell? ⟨w.heap.size + 1, 2, none⟩ = some (.int .i64 s1) ∧ z.cell? ⟨w.heap.size + 1, 3, none⟩ = some (.int .i64 s2) ∧ z.cell? ⟨w.heap.size + 1, 4, none⟩ = some (.int .i64 s3) ∧ z.cell? ⟨w.heap.size + 1, 5, none⟩ = some (.int .i64 s4) ∧ z.cell? ⟨w.heap.size + 1, 6, none⟩ = some (.int .i64 g))) (first | exact hsd | assumption | with_reducible exact keep2 (by assumption) hb9 | with_reducible exact keep2 (by assumption) hb10 | with_reducible exact keep2 (by assumption) hb11 | with_reducible exact keep2 (by assumption) hb12 | with_reducible exact keep2 (by assumption) hb13) (first
    | (go_at_call 9; refine (HC1.out _).mono ?_; rintro e w9 ⟨rfl, hb9⟩; have T9 := Lib.hid (HB.out.drew.trans (bel_le hb9 HB.out.drew.size)))
    | (go_at_call 10; refine (HC2.out _).mono ?_; rintro e w10 ⟨rfl, hb10⟩; have T10 := Lib.hid (T9.out.trans (bel_le hb10 T9.out.size)))
    | (go_at_call 11; refine (HQ1.out _).mono ?_; rintro e w11 ⟨rfl, hb11⟩; have T11 := Lib.hid (T10.out.trans (bel_le hb11 T10.out.size)))
    | (go_at_call 12; refine (HQ2.out _).mono ?_; rintro e w12 ⟨rfl, hb12⟩; have T12 := Lib.hid (T11.out.trans (bel_le hb12 T11.out.size)))
    | (go_at_call 13; refine (still_true HH.out HM.out T12.out).mono ?_; rintro e w13 ⟨rfl, hb13⟩; have T13 := Lib.hid (T12.out.trans (bel_le hb13 T12.out.size))))
  go_wp2
  go_ret
  exact ⟨rfl, T13.out⟩
end Go.Proofs.YtlineonmpbdkgaaDoor.Graph
