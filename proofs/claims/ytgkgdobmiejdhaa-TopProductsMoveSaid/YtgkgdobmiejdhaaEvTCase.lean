/-
  caseGraphs: whether two or three graphs are well-formed and of one size.
-/
import Derived.Test.YtgkgdobmiejdhaaEvTGChecks
import Derived.Deep.RegionHeld3
import Derived.Deep.RegionWith
namespace Go.Proofs.Ytgkgdobmiejdhaa.Graph
open Go Go.RowKit Go.Graph Go.Law
open Go.Proofs.Ytgkgdobmiejdhaa.Col

theorem keepOne {w w' : World} {A B : Nat} {n r0 r1 r2 r3 r4 m : Int} (h : Row6 w A n r0 r1 r2 r3 r4 ∧ w.cell? ⟨B, 0, none⟩ = some (.int .i64 m)) (hb : Below w.heap.size w w') : Row6 w' A n r0 r1 r2 r3 r4 ∧ w'.cell? ⟨B, 0, none⟩ = some (.int .i64 m) := ⟨row_below h.1 hb, (hb.cell (cell_lt h.2)).trans h.2⟩
set_option maxRecDepth 100000 in
set_option maxHeartbeats 2000000 in
theorem case2 (n0 r00 r01 r02 r03 r04 n1 r10 r11 r12 r13 r14 c0 c1 : Int) (t : TypeId) (B : Nat) (k0 : c0 = 0 ∨ c0 = 2 ∨ c0 = 3) (k1 : c1 = 0 ∨ c1 = 2 ∨ c1 = 3) (h0 : ∀ w : World, Calls Try.prog 20 #[.agg #[.int .i64 n0, .int .i64 r00, .int .i64 r01, .int .i64 r02, .int .i64 r03, .int .i64 r04]] w fun e w' => e = .returned (.int .i64 c0) ∧ Below w.heap.size w w') (h1 : ∀ w : World, Calls Try.prog 20 #[.agg #[.int .i64 n1, .int .i64 r10, .int .i64 r11, .int .i64 r12, .int .i64 r13, .int .i64 r14]] w fun e w' => e = .returned (.int .i64 c1) ∧ Below w.heap.size w w') (w : World) (ho : Own w B t [.int .i64 n0, .int .i64 r00, .int .i64 r01, .int .i64 r02, .int .i64 r03, .int .i64 r04, .int .i64 n1, .int .i64 r10, .int .i64 r11, .int .i64 r12, .int .i64 r13, .int .i64 r14]) :
    Calls Try.prog 6 #[.slice (some ⟨B, 0, none⟩) 2 2] w fun e w' => e = .returned (.bool (decide (c0 = 0 ∧ c1 = 0 ∧ n1 = n0))) ∧ Below w.heap.size w w' := by
  have H0 := Lib.hid h0
  have H1 := Lib.hid h1
  clear h0 h1
  have HC0 := Lib.hid k0
  have HC1 := Lib.hid k1
  clear k0 k1
  have HO := Lib.hid ho
  clear ho
  go_enter Try.func6, Try.ntmps6
  go_wp2
  go_loopw [7] (fun i wr => ((i = .int .i64 0) ∨ (i = .int .i64 1 ∧ c0 = 0) ∨ (i = .int .i64 2 ∧ c0 = 0 ∧ c1 = 0 ∧ n1 = n0)) ∧ Below w.heap.size w wr ∧ Own wr B t [.int .i64 n0, .int .i64 r00, .int .i64 r01, .int .i64 r02, .int .i64 r03, .int .i64 r04, .int .i64 n1, .int .i64 r10, .int .i64 r11, .int .i64 r12, .int .i64 r13, .int .i64 r14]) (fun i _ => 2 - (intOf i).toNat)
  case atStart => exact ⟨.inl rfl, Below.refl _ _, HO.out⟩
  case round =>
    obtain ⟨hinv, hbl, hown⟩ := hrel
    have HOW := Lib.hid hown
    have HBL := Lib.hid hbl
    clear hown hbl
    rcases hinv with rfl | ⟨rfl, e0⟩ | ⟨rfl, e0, e1, f1⟩
    · have a0 := HOW.out.cell (j := 0) (v := .int .i64 n0) rfl
      have a1 := HOW.out.cell (j := 1) (v := .int .i64 r00) rfl
      have a2 := HOW.out.cell (j := 2) (v := .int .i64 r01) rfl
      have a3 := HOW.out.cell (j := 3) (v := .int .i64 r02) rfl
      have a4 := HOW.out.cell (j := 4) (v := .int .i64 r03) rfl
      have a5 := HOW.out.cell (j := 5) (v := .int .i64 r04) rfl
      by_cases e : c0 = 0
      · have g1 : (c0 != 0) = false := by simp [e]
        have g2 : (n0 != n0) = false := by simp
        have HF := Lib.hid (show c0 = 0 from e)
        clear e
        go_wp2
        have hsd : Row6 (wr.alloc (.cells #[.int .i64 n0, .int .i64 r00, .int .i64 r01, .int .i64 r02, .int .i64 r03, .int .i64 r04] 24)) wr.heap.size n0 r00 r01 r02 r03 r04 ∧ (wr.alloc (.cells #[.int .i64 n0, .int .i64 r00, .int .i64 r01, .int .i64 r02, .int .i64 r03, .int .i64 r04] 24)).cell? ⟨B, 0, none⟩ = some (.int .i64 n0) := ⟨row_new wr n0 r00 r01 r02 r03 r04, (HOW.out.below (below_alloc wr (.cells #[.int .i64 n0, .int .i64 r00, .int .i64 r01, .int .i64 r02, .int .i64 r03, .int .i64 r04] 24)) HOW.out.lt).cell (j := 0) (v := .int .i64 n0) rfl⟩
        go_region_held3 (fun z : World => (z.cell? ⟨wr.heap.size, 0, none⟩ = some (.int .i64 n0) ∧ z.cell? ⟨wr.heap.size, 1, none⟩ = some (.int .i64 r00) ∧ z.cell? ⟨wr.heap.size, 2, none⟩ = some (.int .i64 r01) ∧ z.cell? ⟨wr.heap.size, 3, none⟩ = some (.int .i64 r02) ∧ z.cell? ⟨wr.heap.size, 4, none⟩ = some (.int .i64 r03) ∧ z.cell? ⟨wr.heap.size, 5, none⟩ = some (.int .i64 r04)) ∧ z.cell? ⟨B, 0, none⟩ = some (.int .i64 n0)) (first | exact hsd | assumption | exact keepOne (by assumption) hb20) (first
          | (go_at_call 20; refine (H0.out _).mono ?_; rintro e w1 ⟨rfl, hb20⟩))
        go_wp2
        have t0 := Lib.hid (below_alloc wr (.cells #[.int .i64 n0, .int .i64 r00, .int .i64 r01, .int .i64 r02, .int .i64 r03, .int .i64 r04] 24))
        have t1 := Lib.hid (t0.out.drew.trans (bel_le hb20 t0.out.drew.size))
        have O1 := Lib.hid (HOW.out.below t1.out HOW.out.lt)
        go_round
        case rel => exact ⟨.inr (.inl ⟨by go_num, HF.out⟩), HBL.out.trans (bel_le t1.out HBL.out.size), O1.out⟩
        case measure => simp [intOf] <;> omega
      · have HF := Lib.hid (show decide (c0 = 0 ∧ c1 = 0 ∧ n1 = n0) = false by rw [decide_eq_false_iff_not]; intro hh; omega)
        have e' : c0 = 2 ∨ c0 = 3 := by have := HC0.out; omega
        clear e
        rcases e' with rfl | rfl
        all_goals
          go_wp2
          have t0 := Lib.hid (below_alloc wr (.cells #[.int .i64 n0, .int .i64 r00, .int .i64 r01, .int .i64 r02, .int .i64 r03, .int .i64 r04] 24))
          obtain ⟨q0, q1, q2, q3, q4, q5⟩ := row_new wr n0 r00 r01 r02 r03 r04
          refine wp_region_any (by kernel_rfl) ?_
          change wpAny _ _ _ _ _ _ _ (World.drew _)
          refine wpAny_ready (rs := [0]) (by kernel_rfl) (by simp) ?_
          refine AllReady.cons rfl (fun K hK => ?_) AllReady.nil
          go_simp
          refine hK _ _ ?_
          clear hK K
          refine wpAny_ready (rs := [1]) (by kernel_rfl) (by simp) ?_
          refine AllReady.cons rfl (fun K hK => ?_) AllReady.nil
          go_simp
          go_wp2_with (go_at_call 20; refine (H0.out _).mono ?_; rintro e w1 ⟨rfl, hb20⟩)
          refine wpAny_take (i := 2) (v := .bool true) rfl (by kernel_rfl) (by kernel_rfl) (by kernel_rfl) (fun _ _ _ h => h) (Or.inl ⟨by kernel_rfl, fun w => by go_simp⟩) ?_
          (try go_simp)
          refine wpAny_take (i := 3) (v := .bool true) rfl (by kernel_rfl) (by kernel_rfl) (by kernel_rfl) (fun _ _ _ h => h) (Or.inl ⟨by kernel_rfl, fun w => by go_simp⟩) ?_
          (try go_simp)
          refine wpAny_take (i := 4) (v := undef) rfl (by kernel_rfl) (by kernel_rfl) (by kernel_rfl) (fun _ _ _ h => h) (Or.inr ⟨by kernel_rfl, rfl⟩) ?_
          (try go_simp)
          refine wpAny_take (i := 5) (v := undef) rfl (by kernel_rfl) (by kernel_rfl) (by kernel_rfl) (fun _ _ _ h => h) (Or.inr ⟨by kernel_rfl, rfl⟩) ?_
          (try go_simp)
          refine wpAny_take (i := 6) (v := undef) rfl (by kernel_rfl) (by kernel_rfl) (by kernel_rfl) (fun _ _ _ h => h) (Or.inr ⟨by kernel_rfl, rfl⟩) ?_
          (try go_simp)
          refine wpAny_take (i := 7) (v := undef) rfl (by kernel_rfl) (by kernel_rfl) (by kernel_rfl) (fun _ _ _ h => h) (Or.inr ⟨by kernel_rfl, rfl⟩) ?_
          (try go_simp)
          refine wpAny_take (i := 8) (v := undef) rfl (by kernel_rfl) (by kernel_rfl) (by kernel_rfl) (fun _ _ _ h => h) (Or.inr ⟨by kernel_rfl, rfl⟩) ?_
          (try go_simp)
          refine wpAny_take (i := 9) (v := undef) rfl (by kernel_rfl) (by kernel_rfl) (by kernel_rfl) (fun _ _ _ h => h) (Or.inr ⟨by kernel_rfl, rfl⟩) ?_
          (try go_simp)
          refine wpAny_take (i := 10) (v := undef) rfl (by kernel_rfl) (by kernel_rfl) (by kernel_rfl) (fun _ _ _ h => h) (Or.inr ⟨by kernel_rfl, rfl⟩) ?_
          (try go_simp)
          refine wpAny_take (i := 11) (v := .bool true) rfl (by kernel_rfl) (by kernel_rfl) (by kernel_rfl) (fun _ _ _ h => h) (Or.inl ⟨by kernel_rfl, fun w => by go_simp⟩) ?_
          (try go_simp)
          refine wpAny_done (by kernel_rfl) ?_ _
          go_wp2
          have t1 := Lib.hid (t0.out.drew.trans (bel_le hb20 t0.out.drew.size))
          go_ret
          exact ⟨ret_bool HF.out.symm, HBL.out.trans (bel_le t1.out HBL.out.size)⟩
    · have a0 := HOW.out.cell (j := 6) (v := .int .i64 n1) rfl
      have a1 := HOW.out.cell (j := 7) (v := .int .i64 r10) rfl
      have a2 := HOW.out.cell (j := 8) (v := .int .i64 r11) rfl
      have a3 := HOW.out.cell (j := 9) (v := .int .i64 r12) rfl
      have a4 := HOW.out.cell (j := 10) (v := .int .i64 r13) rfl
      have a5 := HOW.out.cell (j := 11) (v := .int .i64 r14) rfl
      have b0 := HOW.out.cell (j := 0) (v := .int .i64 n0) rfl
      by_cases e : c1 = 0
      · by_cases f : n1 = n0
        · have g1 : (c1 != 0) = false := by simp [e]
          have g2 : (n1 != n0) = false := by simp [f]
          have HF := Lib.hid (show c0 = 0 ∧ c1 = 0 ∧ n1 = n0 from ⟨e0, e, f⟩)
          clear e0 e f
          go_wp2
          have hsd : Row6 (wr.alloc (.cells #[.int .i64 n1, .int .i64 r10, .int .i64 r11, .int .i64 r12, .int .i64 r13, .int .i64 r14] 24)) wr.heap.size n1 r10 r11 r12 r13 r14 ∧ (wr.alloc (.cells #[.int .i64 n1, .int .i64 r10, .int .i64 r11, .int .i64 r12, .int .i64 r13, .int .i64 r14] 24)).cell? ⟨B, 0, none⟩ = some (.int .i64 n0) := ⟨row_new wr n1 r10 r11 r12 r13 r14, (HOW.out.below (below_alloc wr (.cells #[.int .i64 n1, .int .i64 r10, .int .i64 r11, .int .i64 r12, .int .i64 r13, .int .i64 r14] 24)) HOW.out.lt).cell (j := 0) (v := .int .i64 n0) rfl⟩
          go_region_held3 (fun z : World => (z.cell? ⟨wr.heap.size, 0, none⟩ = some (.int .i64 n1) ∧ z.cell? ⟨wr.heap.size, 1, none⟩ = some (.int .i64 r10) ∧ z.cell? ⟨wr.heap.size, 2, none⟩ = some (.int .i64 r11) ∧ z.cell? ⟨wr.heap.size, 3, none⟩ = some (.int .i64 r12) ∧ z.cell? ⟨wr.heap.size, 4, none⟩ = some (.int .i64 r13) ∧ z.cell? ⟨wr.heap.size, 5, none⟩ = some (.int .i64 r14)) ∧ z.cell? ⟨B, 0, none⟩ = some (.int .i64 n0)) (first | exact hsd | assumption | exact keepOne (by assumption) hb20) (first
            | (go_at_call 20; refine (H1.out _).mono ?_; rintro e w1 ⟨rfl, hb20⟩))
          go_wp2
          have t0 := Lib.hid (below_alloc wr (.cells #[.int .i64 n1, .int .i64 r10, .int .i64 r11, .int .i64 r12, .int .i64 r13, .int .i64 r14] 24))
          have t1 := Lib.hid (t0.out.drew.trans (bel_le hb20 t0.out.drew.size))
          have O1 := Lib.hid (HOW.out.below t1.out HOW.out.lt)
          go_round
          case rel => exact ⟨.inr (.inr (⟨by go_num, HF.out⟩)), HBL.out.trans (bel_le t1.out HBL.out.size), O1.out⟩
          case measure => simp [intOf] <;> omega
        · have g1 : (c1 != 0) = false := by simp [e]
          have g2 : (n1 != n0) = true := by simpa using f
          have HF := Lib.hid (show decide (c0 = 0 ∧ c1 = 0 ∧ n1 = n0) = false by rw [decide_eq_false_iff_not]; intro hh; omega)
          clear e0 e f
          go_wp2
          have hsd : Row6 (wr.alloc (.cells #[.int .i64 n1, .int .i64 r10, .int .i64 r11, .int .i64 r12, .int .i64 r13, .int .i64 r14] 24)) wr.heap.size n1 r10 r11 r12 r13 r14 ∧ (wr.alloc (.cells #[.int .i64 n1, .int .i64 r10, .int .i64 r11, .int .i64 r12, .int .i64 r13, .int .i64 r14] 24)).cell? ⟨B, 0, none⟩ = some (.int .i64 n0) := ⟨row_new wr n1 r10 r11 r12 r13 r14, (HOW.out.below (below_alloc wr (.cells #[.int .i64 n1, .int .i64 r10, .int .i64 r11, .int .i64 r12, .int .i64 r13, .int .i64 r14] 24)) HOW.out.lt).cell (j := 0) (v := .int .i64 n0) rfl⟩
          go_region_held3 (fun z : World => (z.cell? ⟨wr.heap.size, 0, none⟩ = some (.int .i64 n1) ∧ z.cell? ⟨wr.heap.size, 1, none⟩ = some (.int .i64 r10) ∧ z.cell? ⟨wr.heap.size, 2, none⟩ = some (.int .i64 r11) ∧ z.cell? ⟨wr.heap.size, 3, none⟩ = some (.int .i64 r12) ∧ z.cell? ⟨wr.heap.size, 4, none⟩ = some (.int .i64 r13) ∧ z.cell? ⟨wr.heap.size, 5, none⟩ = some (.int .i64 r14)) ∧ z.cell? ⟨B, 0, none⟩ = some (.int .i64 n0)) (first | exact hsd | assumption | exact keepOne (by assumption) hb20) (first
            | (go_at_call 20; refine (H1.out _).mono ?_; rintro e w1 ⟨rfl, hb20⟩))
          go_wp2
          have t0 := Lib.hid (below_alloc wr (.cells #[.int .i64 n1, .int .i64 r10, .int .i64 r11, .int .i64 r12, .int .i64 r13, .int .i64 r14] 24))
          have t1 := Lib.hid (t0.out.drew.trans (bel_le hb20 t0.out.drew.size))
          go_ret
          exact ⟨ret_bool HF.out.symm, HBL.out.trans (bel_le t1.out HBL.out.size)⟩
      · have HF := Lib.hid (show decide (c0 = 0 ∧ c1 = 0 ∧ n1 = n0) = false by rw [decide_eq_false_iff_not]; intro hh; omega)
        have e' : c1 = 2 ∨ c1 = 3 := by have := HC1.out; omega
        clear e0 e
        rcases e' with rfl | rfl
        all_goals
          go_wp2
          have t0 := Lib.hid (below_alloc wr (.cells #[.int .i64 n1, .int .i64 r10, .int .i64 r11, .int .i64 r12, .int .i64 r13, .int .i64 r14] 24))
          obtain ⟨q0, q1, q2, q3, q4, q5⟩ := row_new wr n1 r10 r11 r12 r13 r14
          refine wp_region_any (by kernel_rfl) ?_
          change wpAny _ _ _ _ _ _ _ (World.drew _)
          refine wpAny_ready (rs := [0]) (by kernel_rfl) (by simp) ?_
          refine AllReady.cons rfl (fun K hK => ?_) AllReady.nil
          go_simp
          refine hK _ _ ?_
          clear hK K
          refine wpAny_ready (rs := [1]) (by kernel_rfl) (by simp) ?_
          refine AllReady.cons rfl (fun K hK => ?_) AllReady.nil
          go_simp
          go_wp2_with (go_at_call 20; refine (H1.out _).mono ?_; rintro e w1 ⟨rfl, hb20⟩)
          refine wpAny_take (i := 2) (v := .bool true) rfl (by kernel_rfl) (by kernel_rfl) (by kernel_rfl) (fun _ _ _ h => h) (Or.inl ⟨by kernel_rfl, fun w => by go_simp⟩) ?_
          (try go_simp)
          refine wpAny_take (i := 3) (v := .bool true) rfl (by kernel_rfl) (by kernel_rfl) (by kernel_rfl) (fun _ _ _ h => h) (Or.inl ⟨by kernel_rfl, fun w => by go_simp⟩) ?_
          (try go_simp)
          refine wpAny_take (i := 4) (v := undef) rfl (by kernel_rfl) (by kernel_rfl) (by kernel_rfl) (fun _ _ _ h => h) (Or.inr ⟨by kernel_rfl, rfl⟩) ?_
          (try go_simp)
          refine wpAny_take (i := 5) (v := undef) rfl (by kernel_rfl) (by kernel_rfl) (by kernel_rfl) (fun _ _ _ h => h) (Or.inr ⟨by kernel_rfl, rfl⟩) ?_
          (try go_simp)
          refine wpAny_take (i := 6) (v := undef) rfl (by kernel_rfl) (by kernel_rfl) (by kernel_rfl) (fun _ _ _ h => h) (Or.inr ⟨by kernel_rfl, rfl⟩) ?_
          (try go_simp)
          refine wpAny_take (i := 7) (v := undef) rfl (by kernel_rfl) (by kernel_rfl) (by kernel_rfl) (fun _ _ _ h => h) (Or.inr ⟨by kernel_rfl, rfl⟩) ?_
          (try go_simp)
          refine wpAny_take (i := 8) (v := undef) rfl (by kernel_rfl) (by kernel_rfl) (by kernel_rfl) (fun _ _ _ h => h) (Or.inr ⟨by kernel_rfl, rfl⟩) ?_
          (try go_simp)
          refine wpAny_take (i := 9) (v := undef) rfl (by kernel_rfl) (by kernel_rfl) (by kernel_rfl) (fun _ _ _ h => h) (Or.inr ⟨by kernel_rfl, rfl⟩) ?_
          (try go_simp)
          refine wpAny_take (i := 10) (v := undef) rfl (by kernel_rfl) (by kernel_rfl) (by kernel_rfl) (fun _ _ _ h => h) (Or.inr ⟨by kernel_rfl, rfl⟩) ?_
          (try go_simp)
          refine wpAny_take (i := 11) (v := .bool true) rfl (by kernel_rfl) (by kernel_rfl) (by kernel_rfl) (fun _ _ _ h => h) (Or.inl ⟨by kernel_rfl, fun w => by go_simp⟩) ?_
          (try go_simp)
          refine wpAny_done (by kernel_rfl) ?_ _
          go_wp2
          have t1 := Lib.hid (t0.out.drew.trans (bel_le hb20 t0.out.drew.size))
          go_ret
          exact ⟨ret_bool HF.out.symm, HBL.out.trans (bel_le t1.out HBL.out.size)⟩
    · have HF := Lib.hid (show decide (c0 = 0 ∧ c1 = 0 ∧ n1 = n0) = true by rw [decide_eq_true_eq]; omega)
      clear e0 e1 f1
      go_wp2
      go_ret
      exact ⟨ret_bool HF.out.symm, HBL.out⟩
set_option maxRecDepth 100000 in
set_option maxHeartbeats 2000000 in
theorem case3 (n0 r00 r01 r02 r03 r04 n1 r10 r11 r12 r13 r14 n2 r20 r21 r22 r23 r24 c0 c1 c2 : Int) (t : TypeId) (B : Nat) (k0 : c0 = 0 ∨ c0 = 2 ∨ c0 = 3) (k1 : c1 = 0 ∨ c1 = 2 ∨ c1 = 3) (k2 : c2 = 0 ∨ c2 = 2 ∨ c2 = 3) (h0 : ∀ w : World, Calls Try.prog 20 #[.agg #[.int .i64 n0, .int .i64 r00, .int .i64 r01, .int .i64 r02, .int .i64 r03, .int .i64 r04]] w fun e w' => e = .returned (.int .i64 c0) ∧ Below w.heap.size w w') (h1 : ∀ w : World, Calls Try.prog 20 #[.agg #[.int .i64 n1, .int .i64 r10, .int .i64 r11, .int .i64 r12, .int .i64 r13, .int .i64 r14]] w fun e w' => e = .returned (.int .i64 c1) ∧ Below w.heap.size w w') (h2 : ∀ w : World, Calls Try.prog 20 #[.agg #[.int .i64 n2, .int .i64 r20, .int .i64 r21, .int .i64 r22, .int .i64 r23, .int .i64 r24]] w fun e w' => e = .returned (.int .i64 c2) ∧ Below w.heap.size w w') (w : World) (ho : Own w B t [.int .i64 n0, .int .i64 r00, .int .i64 r01, .int .i64 r02, .int .i64 r03, .int .i64 r04, .int .i64 n1, .int .i64 r10, .int .i64 r11, .int .i64 r12, .int .i64 r13, .int .i64 r14, .int .i64 n2, .int .i64 r20, .int .i64 r21, .int .i64 r22, .int .i64 r23, .int .i64 r24]) :
    Calls Try.prog 6 #[.slice (some ⟨B, 0, none⟩) 3 3] w fun e w' => e = .returned (.bool (decide (c0 = 0 ∧ c1 = 0 ∧ c2 = 0 ∧ n1 = n0 ∧ n2 = n0))) ∧ Below w.heap.size w w' := by
  have H0 := Lib.hid h0
  have H1 := Lib.hid h1
  have H2 := Lib.hid h2
  clear h0 h1 h2
  have HC0 := Lib.hid k0
  have HC1 := Lib.hid k1
  have HC2 := Lib.hid k2
  clear k0 k1 k2
  have HO := Lib.hid ho
  clear ho
  go_enter Try.func6, Try.ntmps6
  go_wp2
  go_loopw [7] (fun i wr => ((i = .int .i64 0) ∨ (i = .int .i64 1 ∧ c0 = 0) ∨ (i = .int .i64 2 ∧ c0 = 0 ∧ c1 = 0 ∧ n1 = n0) ∨ (i = .int .i64 3 ∧ c0 = 0 ∧ c1 = 0 ∧ c2 = 0 ∧ n1 = n0 ∧ n2 = n0)) ∧ Below w.heap.size w wr ∧ Own wr B t [.int .i64 n0, .int .i64 r00, .int .i64 r01, .int .i64 r02, .int .i64 r03, .int .i64 r04, .int .i64 n1, .int .i64 r10, .int .i64 r11, .int .i64 r12, .int .i64 r13, .int .i64 r14, .int .i64 n2, .int .i64 r20, .int .i64 r21, .int .i64 r22, .int .i64 r23, .int .i64 r24]) (fun i _ => 3 - (intOf i).toNat)
  case atStart => exact ⟨.inl rfl, Below.refl _ _, HO.out⟩
  case round =>
    obtain ⟨hinv, hbl, hown⟩ := hrel
    have HOW := Lib.hid hown
    have HBL := Lib.hid hbl
    clear hown hbl
    rcases hinv with rfl | ⟨rfl, e0⟩ | ⟨rfl, e0, e1, f1⟩ | ⟨rfl, e0, e1, e2, f1, f2⟩
    · have a0 := HOW.out.cell (j := 0) (v := .int .i64 n0) rfl
      have a1 := HOW.out.cell (j := 1) (v := .int .i64 r00) rfl
      have a2 := HOW.out.cell (j := 2) (v := .int .i64 r01) rfl
      have a3 := HOW.out.cell (j := 3) (v := .int .i64 r02) rfl
      have a4 := HOW.out.cell (j := 4) (v := .int .i64 r03) rfl
      have a5 := HOW.out.cell (j := 5) (v := .int .i64 r04) rfl
      by_cases e : c0 = 0
      · have g1 : (c0 != 0) = false := by simp [e]
        have g2 : (n0 != n0) = false := by simp
        have HF := Lib.hid (show c0 = 0 from e)
        clear e
        go_wp2
        have hsd : Row6 (wr.alloc (.cells #[.int .i64 n0, .int .i64 r00, .int .i64 r01, .int .i64 r02, .int .i64 r03, .int .i64 r04] 24)) wr.heap.size n0 r00 r01 r02 r03 r04 ∧ (wr.alloc (.cells #[.int .i64 n0, .int .i64 r00, .int .i64 r01, .int .i64 r02, .int .i64 r03, .int .i64 r04] 24)).cell? ⟨B, 0, none⟩ = some (.int .i64 n0) := ⟨row_new wr n0 r00 r01 r02 r03 r04, (HOW.out.below (below_alloc wr (.cells #[.int .i64 n0, .int .i64 r00, .int .i64 r01, .int .i64 r02, .int .i64 r03, .int .i64 r04] 24)) HOW.out.lt).cell (j := 0) (v := .int .i64 n0) rfl⟩
        go_region_held3 (fun z : World => (z.cell? ⟨wr.heap.size, 0, none⟩ = some (.int .i64 n0) ∧ z.cell? ⟨wr.heap.size, 1, none⟩ = some (.int .i64 r00) ∧ z.cell? ⟨wr.heap.size, 2, none⟩ = some (.int .i64 r01) ∧ z.cell? ⟨wr.heap.size, 3, none⟩ = some (.int .i64 r02) ∧ z.cell? ⟨wr.heap.size, 4, none⟩ = some (.int .i64 r03) ∧ z.cell? ⟨wr.heap.size, 5, none⟩ = some (.int .i64 r04)) ∧ z.cell? ⟨B, 0, none⟩ = some (.int .i64 n0)) (first | exact hsd | assumption | exact keepOne (by assumption) hb20) (first
          | (go_at_call 20; refine (H0.out _).mono ?_; rintro e w1 ⟨rfl, hb20⟩))
        go_wp2
        have t0 := Lib.hid (below_alloc wr (.cells #[.int .i64 n0, .int .i64 r00, .int .i64 r01, .int .i64 r02, .int .i64 r03, .int .i64 r04] 24))
        have t1 := Lib.hid (t0.out.drew.trans (bel_le hb20 t0.out.drew.size))
        have O1 := Lib.hid (HOW.out.below t1.out HOW.out.lt)
        go_round
        case rel => exact ⟨.inr (.inl ⟨by go_num, HF.out⟩), HBL.out.trans (bel_le t1.out HBL.out.size), O1.out⟩
        case measure => simp [intOf] <;> omega
      · have HF := Lib.hid (show decide (c0 = 0 ∧ c1 = 0 ∧ c2 = 0 ∧ n1 = n0 ∧ n2 = n0) = false by rw [decide_eq_false_iff_not]; intro hh; omega)
        have e' : c0 = 2 ∨ c0 = 3 := by have := HC0.out; omega
        clear e
        rcases e' with rfl | rfl
        all_goals
          go_wp2
          have t0 := Lib.hid (below_alloc wr (.cells #[.int .i64 n0, .int .i64 r00, .int .i64 r01, .int .i64 r02, .int .i64 r03, .int .i64 r04] 24))
          obtain ⟨q0, q1, q2, q3, q4, q5⟩ := row_new wr n0 r00 r01 r02 r03 r04
          refine wp_region_any (by kernel_rfl) ?_
          change wpAny _ _ _ _ _ _ _ (World.drew _)
          refine wpAny_ready (rs := [0]) (by kernel_rfl) (by simp) ?_
          refine AllReady.cons rfl (fun K hK => ?_) AllReady.nil
          go_simp
          refine hK _ _ ?_
          clear hK K
          refine wpAny_ready (rs := [1]) (by kernel_rfl) (by simp) ?_
          refine AllReady.cons rfl (fun K hK => ?_) AllReady.nil
          go_simp
          go_wp2_with (go_at_call 20; refine (H0.out _).mono ?_; rintro e w1 ⟨rfl, hb20⟩)
          refine wpAny_take (i := 2) (v := .bool true) rfl (by kernel_rfl) (by kernel_rfl) (by kernel_rfl) (fun _ _ _ h => h) (Or.inl ⟨by kernel_rfl, fun w => by go_simp⟩) ?_
          (try go_simp)
          refine wpAny_take (i := 3) (v := .bool true) rfl (by kernel_rfl) (by kernel_rfl) (by kernel_rfl) (fun _ _ _ h => h) (Or.inl ⟨by kernel_rfl, fun w => by go_simp⟩) ?_
          (try go_simp)
          refine wpAny_take (i := 4) (v := undef) rfl (by kernel_rfl) (by kernel_rfl) (by kernel_rfl) (fun _ _ _ h => h) (Or.inr ⟨by kernel_rfl, rfl⟩) ?_
          (try go_simp)
          refine wpAny_take (i := 5) (v := undef) rfl (by kernel_rfl) (by kernel_rfl) (by kernel_rfl) (fun _ _ _ h => h) (Or.inr ⟨by kernel_rfl, rfl⟩) ?_
          (try go_simp)
          refine wpAny_take (i := 6) (v := undef) rfl (by kernel_rfl) (by kernel_rfl) (by kernel_rfl) (fun _ _ _ h => h) (Or.inr ⟨by kernel_rfl, rfl⟩) ?_
          (try go_simp)
          refine wpAny_take (i := 7) (v := undef) rfl (by kernel_rfl) (by kernel_rfl) (by kernel_rfl) (fun _ _ _ h => h) (Or.inr ⟨by kernel_rfl, rfl⟩) ?_
          (try go_simp)
          refine wpAny_take (i := 8) (v := undef) rfl (by kernel_rfl) (by kernel_rfl) (by kernel_rfl) (fun _ _ _ h => h) (Or.inr ⟨by kernel_rfl, rfl⟩) ?_
          (try go_simp)
          refine wpAny_take (i := 9) (v := undef) rfl (by kernel_rfl) (by kernel_rfl) (by kernel_rfl) (fun _ _ _ h => h) (Or.inr ⟨by kernel_rfl, rfl⟩) ?_
          (try go_simp)
          refine wpAny_take (i := 10) (v := undef) rfl (by kernel_rfl) (by kernel_rfl) (by kernel_rfl) (fun _ _ _ h => h) (Or.inr ⟨by kernel_rfl, rfl⟩) ?_
          (try go_simp)
          refine wpAny_take (i := 11) (v := .bool true) rfl (by kernel_rfl) (by kernel_rfl) (by kernel_rfl) (fun _ _ _ h => h) (Or.inl ⟨by kernel_rfl, fun w => by go_simp⟩) ?_
          (try go_simp)
          refine wpAny_done (by kernel_rfl) ?_ _
          go_wp2
          have t1 := Lib.hid (t0.out.drew.trans (bel_le hb20 t0.out.drew.size))
          go_ret
          exact ⟨ret_bool HF.out.symm, HBL.out.trans (bel_le t1.out HBL.out.size)⟩
    · have a0 := HOW.out.cell (j := 6) (v := .int .i64 n1) rfl
      have a1 := HOW.out.cell (j := 7) (v := .int .i64 r10) rfl
      have a2 := HOW.out.cell (j := 8) (v := .int .i64 r11) rfl
      have a3 := HOW.out.cell (j := 9) (v := .int .i64 r12) rfl
      have a4 := HOW.out.cell (j := 10) (v := .int .i64 r13) rfl
      have a5 := HOW.out.cell (j := 11) (v := .int .i64 r14) rfl
      have b0 := HOW.out.cell (j := 0) (v := .int .i64 n0) rfl
      by_cases e : c1 = 0
      · by_cases f : n1 = n0
        · have g1 : (c1 != 0) = false := by simp [e]
          have g2 : (n1 != n0) = false := by simp [f]
          have HF := Lib.hid (show c0 = 0 ∧ c1 = 0 ∧ n1 = n0 from ⟨e0, e, f⟩)
          clear e0 e f
          go_wp2
          have hsd : Row6 (wr.alloc (.cells #[.int .i64 n1, .int .i64 r10, .int .i64 r11, .int .i64 r12, .int .i64 r13, .int .i64 r14] 24)) wr.heap.size n1 r10 r11 r12 r13 r14 ∧ (wr.alloc (.cells #[.int .i64 n1, .int .i64 r10, .int .i64 r11, .int .i64 r12, .int .i64 r13, .int .i64 r14] 24)).cell? ⟨B, 0, none⟩ = some (.int .i64 n0) := ⟨row_new wr n1 r10 r11 r12 r13 r14, (HOW.out.below (below_alloc wr (.cells #[.int .i64 n1, .int .i64 r10, .int .i64 r11, .int .i64 r12, .int .i64 r13, .int .i64 r14] 24)) HOW.out.lt).cell (j := 0) (v := .int .i64 n0) rfl⟩
          go_region_held3 (fun z : World => (z.cell? ⟨wr.heap.size, 0, none⟩ = some (.int .i64 n1) ∧ z.cell? ⟨wr.heap.size, 1, none⟩ = some (.int .i64 r10) ∧ z.cell? ⟨wr.heap.size, 2, none⟩ = some (.int .i64 r11) ∧ z.cell? ⟨wr.heap.size, 3, none⟩ = some (.int .i64 r12) ∧ z.cell? ⟨wr.heap.size, 4, none⟩ = some (.int .i64 r13) ∧ z.cell? ⟨wr.heap.size, 5, none⟩ = some (.int .i64 r14)) ∧ z.cell? ⟨B, 0, none⟩ = some (.int .i64 n0)) (first | exact hsd | assumption | exact keepOne (by assumption) hb20) (first
            | (go_at_call 20; refine (H1.out _).mono ?_; rintro e w1 ⟨rfl, hb20⟩))
          go_wp2
          have t0 := Lib.hid (below_alloc wr (.cells #[.int .i64 n1, .int .i64 r10, .int .i64 r11, .int .i64 r12, .int .i64 r13, .int .i64 r14] 24))
          have t1 := Lib.hid (t0.out.drew.trans (bel_le hb20 t0.out.drew.size))
          have O1 := Lib.hid (HOW.out.below t1.out HOW.out.lt)
          go_round
          case rel => exact ⟨.inr (.inr (.inl ⟨by go_num, HF.out⟩)), HBL.out.trans (bel_le t1.out HBL.out.size), O1.out⟩
          case measure => simp [intOf] <;> omega
        · have g1 : (c1 != 0) = false := by simp [e]
          have g2 : (n1 != n0) = true := by simpa using f
          have HF := Lib.hid (show decide (c0 = 0 ∧ c1 = 0 ∧ c2 = 0 ∧ n1 = n0 ∧ n2 = n0) = false by rw [decide_eq_false_iff_not]; intro hh; omega)
          clear e0 e f
          go_wp2
          have hsd : Row6 (wr.alloc (.cells #[.int .i64 n1, .int .i64 r10, .int .i64 r11, .int .i64 r12, .int .i64 r13, .int .i64 r14] 24)) wr.heap.size n1 r10 r11 r12 r13 r14 ∧ (wr.alloc (.cells #[.int .i64 n1, .int .i64 r10, .int .i64 r11, .int .i64 r12, .int .i64 r13, .int .i64 r14] 24)).cell? ⟨B, 0, none⟩ = some (.int .i64 n0) := ⟨row_new wr n1 r10 r11 r12 r13 r14, (HOW.out.below (below_alloc wr (.cells #[.int .i64 n1, .int .i64 r10, .int .i64 r11, .int .i64 r12, .int .i64 r13, .int .i64 r14] 24)) HOW.out.lt).cell (j := 0) (v := .int .i64 n0) rfl⟩
          go_region_held3 (fun z : World => (z.cell? ⟨wr.heap.size, 0, none⟩ = some (.int .i64 n1) ∧ z.cell? ⟨wr.heap.size, 1, none⟩ = some (.int .i64 r10) ∧ z.cell? ⟨wr.heap.size, 2, none⟩ = some (.int .i64 r11) ∧ z.cell? ⟨wr.heap.size, 3, none⟩ = some (.int .i64 r12) ∧ z.cell? ⟨wr.heap.size, 4, none⟩ = some (.int .i64 r13) ∧ z.cell? ⟨wr.heap.size, 5, none⟩ = some (.int .i64 r14)) ∧ z.cell? ⟨B, 0, none⟩ = some (.int .i64 n0)) (first | exact hsd | assumption | exact keepOne (by assumption) hb20) (first
            | (go_at_call 20; refine (H1.out _).mono ?_; rintro e w1 ⟨rfl, hb20⟩))
          go_wp2
          have t0 := Lib.hid (below_alloc wr (.cells #[.int .i64 n1, .int .i64 r10, .int .i64 r11, .int .i64 r12, .int .i64 r13, .int .i64 r14] 24))
          have t1 := Lib.hid (t0.out.drew.trans (bel_le hb20 t0.out.drew.size))
          go_ret
          exact ⟨ret_bool HF.out.symm, HBL.out.trans (bel_le t1.out HBL.out.size)⟩
      · have HF := Lib.hid (show decide (c0 = 0 ∧ c1 = 0 ∧ c2 = 0 ∧ n1 = n0 ∧ n2 = n0) = false by rw [decide_eq_false_iff_not]; intro hh; omega)
        have e' : c1 = 2 ∨ c1 = 3 := by have := HC1.out; omega
        clear e0 e
        rcases e' with rfl | rfl
        all_goals
          go_wp2
          have t0 := Lib.hid (below_alloc wr (.cells #[.int .i64 n1, .int .i64 r10, .int .i64 r11, .int .i64 r12, .int .i64 r13, .int .i64 r14] 24))
          obtain ⟨q0, q1, q2, q3, q4, q5⟩ := row_new wr n1 r10 r11 r12 r13 r14
          refine wp_region_any (by kernel_rfl) ?_
          change wpAny _ _ _ _ _ _ _ (World.drew _)
          refine wpAny_ready (rs := [0]) (by kernel_rfl) (by simp) ?_
          refine AllReady.cons rfl (fun K hK => ?_) AllReady.nil
          go_simp
          refine hK _ _ ?_
          clear hK K
          refine wpAny_ready (rs := [1]) (by kernel_rfl) (by simp) ?_
          refine AllReady.cons rfl (fun K hK => ?_) AllReady.nil
          go_simp
          go_wp2_with (go_at_call 20; refine (H1.out _).mono ?_; rintro e w1 ⟨rfl, hb20⟩)
          refine wpAny_take (i := 2) (v := .bool true) rfl (by kernel_rfl) (by kernel_rfl) (by kernel_rfl) (fun _ _ _ h => h) (Or.inl ⟨by kernel_rfl, fun w => by go_simp⟩) ?_
          (try go_simp)
          refine wpAny_take (i := 3) (v := .bool true) rfl (by kernel_rfl) (by kernel_rfl) (by kernel_rfl) (fun _ _ _ h => h) (Or.inl ⟨by kernel_rfl, fun w => by go_simp⟩) ?_
          (try go_simp)
          refine wpAny_take (i := 4) (v := undef) rfl (by kernel_rfl) (by kernel_rfl) (by kernel_rfl) (fun _ _ _ h => h) (Or.inr ⟨by kernel_rfl, rfl⟩) ?_
          (try go_simp)
          refine wpAny_take (i := 5) (v := undef) rfl (by kernel_rfl) (by kernel_rfl) (by kernel_rfl) (fun _ _ _ h => h) (Or.inr ⟨by kernel_rfl, rfl⟩) ?_
          (try go_simp)
          refine wpAny_take (i := 6) (v := undef) rfl (by kernel_rfl) (by kernel_rfl) (by kernel_rfl) (fun _ _ _ h => h) (Or.inr ⟨by kernel_rfl, rfl⟩) ?_
          (try go_simp)
          refine wpAny_take (i := 7) (v := undef) rfl (by kernel_rfl) (by kernel_rfl) (by kernel_rfl) (fun _ _ _ h => h) (Or.inr ⟨by kernel_rfl, rfl⟩) ?_
          (try go_simp)
          refine wpAny_take (i := 8) (v := undef) rfl (by kernel_rfl) (by kernel_rfl) (by kernel_rfl) (fun _ _ _ h => h) (Or.inr ⟨by kernel_rfl, rfl⟩) ?_
          (try go_simp)
          refine wpAny_take (i := 9) (v := undef) rfl (by kernel_rfl) (by kernel_rfl) (by kernel_rfl) (fun _ _ _ h => h) (Or.inr ⟨by kernel_rfl, rfl⟩) ?_
          (try go_simp)
          refine wpAny_take (i := 10) (v := undef) rfl (by kernel_rfl) (by kernel_rfl) (by kernel_rfl) (fun _ _ _ h => h) (Or.inr ⟨by kernel_rfl, rfl⟩) ?_
          (try go_simp)
          refine wpAny_take (i := 11) (v := .bool true) rfl (by kernel_rfl) (by kernel_rfl) (by kernel_rfl) (fun _ _ _ h => h) (Or.inl ⟨by kernel_rfl, fun w => by go_simp⟩) ?_
          (try go_simp)
          refine wpAny_done (by kernel_rfl) ?_ _
          go_wp2
          have t1 := Lib.hid (t0.out.drew.trans (bel_le hb20 t0.out.drew.size))
          go_ret
          exact ⟨ret_bool HF.out.symm, HBL.out.trans (bel_le t1.out HBL.out.size)⟩
    · have a0 := HOW.out.cell (j := 12) (v := .int .i64 n2) rfl
      have a1 := HOW.out.cell (j := 13) (v := .int .i64 r20) rfl
      have a2 := HOW.out.cell (j := 14) (v := .int .i64 r21) rfl
      have a3 := HOW.out.cell (j := 15) (v := .int .i64 r22) rfl
      have a4 := HOW.out.cell (j := 16) (v := .int .i64 r23) rfl
      have a5 := HOW.out.cell (j := 17) (v := .int .i64 r24) rfl
      have b0 := HOW.out.cell (j := 0) (v := .int .i64 n0) rfl
      by_cases e : c2 = 0
      · by_cases f : n2 = n0
        · have g1 : (c2 != 0) = false := by simp [e]
          have g2 : (n2 != n0) = false := by simp [f]
          have HF := Lib.hid (show c0 = 0 ∧ c1 = 0 ∧ c2 = 0 ∧ n1 = n0 ∧ n2 = n0 from ⟨e0, e1, e, f1, f⟩)
          clear e0 e1 e f1 f
          go_wp2
          have hsd : Row6 (wr.alloc (.cells #[.int .i64 n2, .int .i64 r20, .int .i64 r21, .int .i64 r22, .int .i64 r23, .int .i64 r24] 24)) wr.heap.size n2 r20 r21 r22 r23 r24 ∧ (wr.alloc (.cells #[.int .i64 n2, .int .i64 r20, .int .i64 r21, .int .i64 r22, .int .i64 r23, .int .i64 r24] 24)).cell? ⟨B, 0, none⟩ = some (.int .i64 n0) := ⟨row_new wr n2 r20 r21 r22 r23 r24, (HOW.out.below (below_alloc wr (.cells #[.int .i64 n2, .int .i64 r20, .int .i64 r21, .int .i64 r22, .int .i64 r23, .int .i64 r24] 24)) HOW.out.lt).cell (j := 0) (v := .int .i64 n0) rfl⟩
          go_region_held3 (fun z : World => (z.cell? ⟨wr.heap.size, 0, none⟩ = some (.int .i64 n2) ∧ z.cell? ⟨wr.heap.size, 1, none⟩ = some (.int .i64 r20) ∧ z.cell? ⟨wr.heap.size, 2, none⟩ = some (.int .i64 r21) ∧ z.cell? ⟨wr.heap.size, 3, none⟩ = some (.int .i64 r22) ∧ z.cell? ⟨wr.heap.size, 4, none⟩ = some (.int .i64 r23) ∧ z.cell? ⟨wr.heap.size, 5, none⟩ = some (.int .i64 r24)) ∧ z.cell? ⟨B, 0, none⟩ = some (.int .i64 n0)) (first | exact hsd | assumption | exact keepOne (by assumption) hb20) (first
            | (go_at_call 20; refine (H2.out _).mono ?_; rintro e w1 ⟨rfl, hb20⟩))
          go_wp2
          have t0 := Lib.hid (below_alloc wr (.cells #[.int .i64 n2, .int .i64 r20, .int .i64 r21, .int .i64 r22, .int .i64 r23, .int .i64 r24] 24))
          have t1 := Lib.hid (t0.out.drew.trans (bel_le hb20 t0.out.drew.size))
          have O1 := Lib.hid (HOW.out.below t1.out HOW.out.lt)
          go_round
          case rel => exact ⟨.inr (.inr (.inr (⟨by go_num, HF.out⟩))), HBL.out.trans (bel_le t1.out HBL.out.size), O1.out⟩
          case measure => simp [intOf] <;> omega
        · have g1 : (c2 != 0) = false := by simp [e]
          have g2 : (n2 != n0) = true := by simpa using f
          have HF := Lib.hid (show decide (c0 = 0 ∧ c1 = 0 ∧ c2 = 0 ∧ n1 = n0 ∧ n2 = n0) = false by rw [decide_eq_false_iff_not]; intro hh; omega)
          clear e0 e1 e f1 f
          go_wp2
          have hsd : Row6 (wr.alloc (.cells #[.int .i64 n2, .int .i64 r20, .int .i64 r21, .int .i64 r22, .int .i64 r23, .int .i64 r24] 24)) wr.heap.size n2 r20 r21 r22 r23 r24 ∧ (wr.alloc (.cells #[.int .i64 n2, .int .i64 r20, .int .i64 r21, .int .i64 r22, .int .i64 r23, .int .i64 r24] 24)).cell? ⟨B, 0, none⟩ = some (.int .i64 n0) := ⟨row_new wr n2 r20 r21 r22 r23 r24, (HOW.out.below (below_alloc wr (.cells #[.int .i64 n2, .int .i64 r20, .int .i64 r21, .int .i64 r22, .int .i64 r23, .int .i64 r24] 24)) HOW.out.lt).cell (j := 0) (v := .int .i64 n0) rfl⟩
          go_region_held3 (fun z : World => (z.cell? ⟨wr.heap.size, 0, none⟩ = some (.int .i64 n2) ∧ z.cell? ⟨wr.heap.size, 1, none⟩ = some (.int .i64 r20) ∧ z.cell? ⟨wr.heap.size, 2, none⟩ = some (.int .i64 r21) ∧ z.cell? ⟨wr.heap.size, 3, none⟩ = some (.int .i64 r22) ∧ z.cell? ⟨wr.heap.size, 4, none⟩ = some (.int .i64 r23) ∧ z.cell? ⟨wr.heap.size, 5, none⟩ = some (.int .i64 r24)) ∧ z.cell? ⟨B, 0, none⟩ = some (.int .i64 n0)) (first | exact hsd | assumption | exact keepOne (by assumption) hb20) (first
            | (go_at_call 20; refine (H2.out _).mono ?_; rintro e w1 ⟨rfl, hb20⟩))
          go_wp2
          have t0 := Lib.hid (below_alloc wr (.cells #[.int .i64 n2, .int .i64 r20, .int .i64 r21, .int .i64 r22, .int .i64 r23, .int .i64 r24] 24))
          have t1 := Lib.hid (t0.out.drew.trans (bel_le hb20 t0.out.drew.size))
          go_ret
          exact ⟨ret_bool HF.out.symm, HBL.out.trans (bel_le t1.out HBL.out.size)⟩
      · have HF := Lib.hid (show decide (c0 = 0 ∧ c1 = 0 ∧ c2 = 0 ∧ n1 = n0 ∧ n2 = n0) = false by rw [decide_eq_false_iff_not]; intro hh; omega)
        have e' : c2 = 2 ∨ c2 = 3 := by have := HC2.out; omega
        clear e0 e1 e f1
        rcases e' with rfl | rfl
        all_goals
          go_wp2
          have t0 := Lib.hid (below_alloc wr (.cells #[.int .i64 n2, .int .i64 r20, .int .i64 r21, .int .i64 r22, .int .i64 r23, .int .i64 r24] 24))
          obtain ⟨q0, q1, q2, q3, q4, q5⟩ := row_new wr n2 r20 r21 r22 r23 r24
          refine wp_region_any (by kernel_rfl) ?_
          change wpAny _ _ _ _ _ _ _ (World.drew _)
          refine wpAny_ready (rs := [0]) (by kernel_rfl) (by simp) ?_
          refine AllReady.cons rfl (fun K hK => ?_) AllReady.nil
          go_simp
          refine hK _ _ ?_
          clear hK K
          refine wpAny_ready (rs := [1]) (by kernel_rfl) (by simp) ?_
          refine AllReady.cons rfl (fun K hK => ?_) AllReady.nil
          go_simp
          go_wp2_with (go_at_call 20; refine (H2.out _).mono ?_; rintro e w1 ⟨rfl, hb20⟩)
          refine wpAny_take (i := 2) (v := .bool true) rfl (by kernel_rfl) (by kernel_rfl) (by kernel_rfl) (fun _ _ _ h => h) (Or.inl ⟨by kernel_rfl, fun w => by go_simp⟩) ?_
          (try go_simp)
          refine wpAny_take (i := 3) (v := .bool true) rfl (by kernel_rfl) (by kernel_rfl) (by kernel_rfl) (fun _ _ _ h => h) (Or.inl ⟨by kernel_rfl, fun w => by go_simp⟩) ?_
          (try go_simp)
          refine wpAny_take (i := 4) (v := undef) rfl (by kernel_rfl) (by kernel_rfl) (by kernel_rfl) (fun _ _ _ h => h) (Or.inr ⟨by kernel_rfl, rfl⟩) ?_
          (try go_simp)
          refine wpAny_take (i := 5) (v := undef) rfl (by kernel_rfl) (by kernel_rfl) (by kernel_rfl) (fun _ _ _ h => h) (Or.inr ⟨by kernel_rfl, rfl⟩) ?_
          (try go_simp)
          refine wpAny_take (i := 6) (v := undef) rfl (by kernel_rfl) (by kernel_rfl) (by kernel_rfl) (fun _ _ _ h => h) (Or.inr ⟨by kernel_rfl, rfl⟩) ?_
          (try go_simp)
          refine wpAny_take (i := 7) (v := undef) rfl (by kernel_rfl) (by kernel_rfl) (by kernel_rfl) (fun _ _ _ h => h) (Or.inr ⟨by kernel_rfl, rfl⟩) ?_
          (try go_simp)
          refine wpAny_take (i := 8) (v := undef) rfl (by kernel_rfl) (by kernel_rfl) (by kernel_rfl) (fun _ _ _ h => h) (Or.inr ⟨by kernel_rfl, rfl⟩) ?_
          (try go_simp)
          refine wpAny_take (i := 9) (v := undef) rfl (by kernel_rfl) (by kernel_rfl) (by kernel_rfl) (fun _ _ _ h => h) (Or.inr ⟨by kernel_rfl, rfl⟩) ?_
          (try go_simp)
          refine wpAny_take (i := 10) (v := undef) rfl (by kernel_rfl) (by kernel_rfl) (by kernel_rfl) (fun _ _ _ h => h) (Or.inr ⟨by kernel_rfl, rfl⟩) ?_
          (try go_simp)
          refine wpAny_take (i := 11) (v := .bool true) rfl (by kernel_rfl) (by kernel_rfl) (by kernel_rfl) (fun _ _ _ h => h) (Or.inl ⟨by kernel_rfl, fun w => by go_simp⟩) ?_
          (try go_simp)
          refine wpAny_done (by kernel_rfl) ?_ _
          go_wp2
          have t1 := Lib.hid (t0.out.drew.trans (bel_le hb20 t0.out.drew.size))
          go_ret
          exact ⟨ret_bool HF.out.symm, HBL.out.trans (bel_le t1.out HBL.out.size)⟩
    · have HF := Lib.hid (show decide (c0 = 0 ∧ c1 = 0 ∧ c2 = 0 ∧ n1 = n0 ∧ n2 = n0) = true by rw [decide_eq_true_eq]; omega)
      clear e0 e1 e2 f1 f2
      go_wp2
      go_ret
      exact ⟨ret_bool HF.out.symm, HBL.out⟩
end Go.Proofs.Ytgkgdobmiejdhaa.Graph
