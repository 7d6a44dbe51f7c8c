/-
  Rounds: their check and their order, the program's and the reference's.
-/
import Derived.Test.YtlineonmpbdkgaaDoorEvRoCheck
import Derived.StillTailTactics
import Derived.Laws.NewBlocks
import Derived.ChangeKeysEq
import Derived.Laws.StructEq
import Derived.Test.YtlineonmpbdkgaaDoorEvGRel
namespace Go.Proofs.YtlineonmpbdkgaaDoor.Graph
open Go Go.RowKit Go.Graph Go.Law
open Go.Proofs.YtlineonmpbdkgaaDoor.Col

theorem nan_ok (x : Int) (w : World) : Calls Tryd.prog 64 #[.int .i64 x] w fun e w' => e = .returned (.bool false) ∧ w = w' := by
  go_enter Tryd.func64, Tryd.ntmps64
  go_wp2
  go_ret
  exact ⟨rfl, rfl⟩
theorem cmp_ok (x y : Int) (w : World) : Calls Tryd.prog 40 #[.int .i64 x, .int .i64 y] w fun e w' => e = .returned (.int .i64 (cmp x y)) ∧ w = w' := by
  unfold cmp
  by_cases h1 : x < y
  · rw [if_pos h1]
    go_enter Tryd.func40, Tryd.ntmps40
    go_wp2_with (go_at_call 64; refine (nan_ok _ _).mono ?_; rintro e w' ⟨rfl, rfl⟩)
    go_ret
    exact ⟨rfl, rfl⟩
  · rw [if_neg h1]
    by_cases h2 : y < x
    · rw [if_pos h2]
      go_enter Tryd.func40, Tryd.ntmps40
      go_wp2_with (go_at_call 64; refine (nan_ok _ _).mono ?_; rintro e w' ⟨rfl, rfl⟩)
      go_ret
      exact ⟨rfl, rfl⟩
    · rw [if_neg h2]
      go_enter Tryd.func40, Tryd.ntmps40
      go_wp2_with (go_at_call 64; refine (nan_ok _ _).mono ?_; rintro e w' ⟨rfl, rfl⟩)
      go_ret
      exact ⟨rfl, rfl⟩
theorem arr_eq_d (d : Nat) (r0 r1 r2 r3 r4 s0 s1 s2 s3 s4 : Int) (w : World) : (Op.equalIn (d + 1 + 1) 22 (.agg #[.int .i64 r0, .int .i64 r1, .int .i64 r2, .int .i64 r3, .int .i64 r4]) (.agg #[.int .i64 s0, .int .i64 s1, .int .i64 s2, .int .i64 s3, .int .i64 s4])).run Tryd.prog w = .ok (decide (r0 = s0 ∧ r1 = s1 ∧ r2 = s2 ∧ r3 = s3 ∧ r4 = s4)) w := by
  have hs : (Tryd.prog.info? 3).isSome = true := by kernel_rfl
  obtain ⟨i, hi⟩ := Option.isSome_iff_exists.1 hs
  have hc : Tryd.prog.cellsOf 3 = 1 := by kernel_rfl
  rw [run_equalIn_array w (d + 1) _ _ Tryd.underlying22 hi, hc]
  have hr : List.range 5 = [0, 1, 2, 3, 4] := by decide
  rw [hr]
  simp only [Op.eqItems, Sem.run_bind]
  simp [part, run_equalIn_int _ d 3 _ _ _ _ Tryd.underlying3]
  by_cases h0 : r0 = s0 <;> by_cases h1 : r1 = s1 <;> by_cases h2 : r2 = s2 <;> by_cases h3 : r3 = s3 <;> by_cases h4 : r4 = s4 <;> simp [h0, h1, h2, h3, h4]
theorem arr_eq (r0 r1 r2 r3 r4 s0 s1 s2 s3 s4 : Int) (w : World) : (Op.equalIn 9999 22 (.agg #[.int .i64 r0, .int .i64 r1, .int .i64 r2, .int .i64 r3, .int .i64 r4]) (.agg #[.int .i64 s0, .int .i64 s1, .int .i64 s2, .int .i64 s3, .int .i64 s4])).run Tryd.prog w = .ok (decide (r0 = s0 ∧ r1 = s1 ∧ r2 = s2 ∧ r3 = s3 ∧ r4 = s4)) w :=
  arr_eq_d 9997 r0 r1 r2 r3 r4 s0 s1 s2 s3 s4 w
/-- The cells of two graphs that lie in boxes. -/
theorem cell_fst (w : World) (n r0 r1 r2 r3 r4 : Int) (t : TypeId) (o : Obj) : ∀ k : Nat, k < 5 → ((w.alloc (.cells #[.int .i64 n, .int .i64 r0, .int .i64 r1, .int .i64 r2, .int .i64 r3, .int .i64 r4] t)).alloc o).cell? ⟨w.heap.size, 1 + k, none⟩ = some (.int .i64 ([r0, r1, r2, r3, r4].getD k 0)) := by
  intro k hk
  rw [World.cell?_alloc_past _ _ _ (by show w.heap.size < (w.heap.push _).size; rw [Array.size_push]; omega)]
  exact cell_at w n r0 r1 r2 r3 r4 t k hk
theorem cell_snd (w : World) (n r0 r1 r2 r3 r4 : Int) (t : TypeId) (o : Obj) : ∀ k : Nat, k < 5 → ((w.alloc o).alloc (.cells #[.int .i64 n, .int .i64 r0, .int .i64 r1, .int .i64 r2, .int .i64 r3, .int .i64 r4] t)).cell? ⟨w.heap.size + 1, 1 + k, none⟩ = some (.int .i64 ([r0, r1, r2, r3, r4].getD k 0)) := by
  intro k hk
  have := cell_at (w.alloc o) n r0 r1 r2 r3 r4 t k hk
  have e : (w.alloc o).heap.size = w.heap.size + 1 := by show (w.heap.push _).size = _; rw [Array.size_push]
  rwa [e] at this
set_option maxRecDepth 100000 in
theorem compare_same (n r0 r1 r2 r3 r4 : Int) (w : World) :
    Calls Tryd.prog 39 #[.agg #[.int .i64 n, .int .i64 r0, .int .i64 r1, .int .i64 r2, .int .i64 r3, .int .i64 r4], .agg #[.int .i64 n, .int .i64 r0, .int .i64 r1, .int .i64 r2, .int .i64 r3, .int .i64 r4]] w fun e w' => e = .returned (.int .i64 0) ∧ Below w.heap.size w w' := by
  have he := arr_eq r0 r1 r2 r3 r4 r0 r1 r2 r3 r4
  simp only [and_self, decide_true] at he
  have HB := Lib.hid ((below_alloc w (.cells #[.int .i64 n, .int .i64 r0, .int .i64 r1, .int .i64 r2, .int .i64 r3, .int .i64 r4] 24)).alloc (by show w.heap.size ≤ (w.heap.push _).size; rw [Array.size_push]; omega) (.cells #[.int .i64 n, .int .i64 r0, .int .i64 r1, .int .i64 r2, .int .i64 r3, .int .i64 r4] 24))
  go_enter Tryd.func39, Tryd.ntmps39
  go_wp2
  go_ret
  exact ⟨rfl, HB.out⟩
theorem size_alloc (w : World) (o : Obj) : (w.alloc o).heap.size = w.heap.size + 1 := by show (w.heap.push _).size = _; rw [Array.size_push]
theorem quiet_pure {P : Program} {f : FuncId} {args : Array Value} {w : World} {a n : Nat} {v : Value}
    (h : ∀ w : World, Calls P f args w fun e w' => e = .returned v ∧ w = w') :
    Calls P f args (w.drewN (a + n)) fun e w'' => e = .returned v ∧ ∃ m, w'' = w.drewN (a + m) :=
  (h _).mono fun _ _ ⟨he, hw⟩ => ⟨he, n, hw.symm⟩
theorem lex_ne {x y : Int} {xs ys : List Int} (h : x ≠ y) : lex (x :: xs) (y :: ys) = cmp x y := by
  rw [lex_cons, if_neg (fun e => h (cmp_zero.1 e))]
theorem lex_same {x : Int} {xs ys : List Int} : lex (x :: xs) (x :: ys) = lex xs ys := by
  rw [lex_cons, if_pos (cmp_zero.2 rfl)]
set_option maxRecDepth 100000 in
theorem compare_far (n r0 r1 r2 r3 r4 m s0 s1 s2 s3 s4 : Int) (h : n ≠ m) (w : World) :
    Calls Tryd.prog 39 #[.agg #[.int .i64 n, .int .i64 r0, .int .i64 r1, .int .i64 r2, .int .i64 r3, .int .i64 r4], .agg #[.int .i64 m, .int .i64 s0, .int .i64 s1, .int .i64 s2, .int .i64 s3, .int .i64 s4]] w fun e w' => e = .returned (.int .i64 (cmp n m)) ∧ Below w.heap.size w w' := by
  have hc : (cmp n m == 0) = false := beq_eq_false_iff_ne.2 (fun e => h (cmp_zero.1 e))
  have HB := Lib.hid ((below_alloc w (.cells #[.int .i64 n, .int .i64 r0, .int .i64 r1, .int .i64 r2, .int .i64 r3, .int .i64 r4] 24)).alloc (by rw [size_alloc]; omega) (.cells #[.int .i64 m, .int .i64 s0, .int .i64 s1, .int .i64 s2, .int .i64 s3, .int .i64 s4] 24))
  have HC := Lib.hid (cmp_ok n m)
  generalize cmp n m = c at *
  go_enter Tryd.func39, Tryd.ntmps39
  go_wp2_with (go_at_call 40; refine (HC.out _).mono ?_; rintro e w' ⟨rfl, rfl⟩)
  go_loop [5, 6] (fun a b => a = .int .i64 c ∧ b = .int .i64 0) (fun _ _ => 0)
  case atStart => exact ⟨rfl, rfl⟩
  case round =>
    obtain ⟨rfl, rfl⟩ := hrel
    go_wp2
    go_ret
    exact ⟨rfl, HB.out⟩
theorem lex_step {R S : List Int} {k : Nat} (h1 : k < R.length) (h2 : k < S.length) (h : R.take k = S.take k) :
    lex (R.drop k) (S.drop k) = (if cmp (R.getD k 0) (S.getD k 0) = 0 then lex (R.drop (k + 1)) (S.drop (k + 1)) else cmp (R.getD k 0) (S.getD k 0)) ∧ (cmp (R.getD k 0) (S.getD k 0) = 0 → R.take (k + 1) = S.take (k + 1)) := by
  constructor
  · rw [drop_cons h1, drop_cons h2, lex_cons]
  · intro e
    have e := cmp_zero.1 e
    simp only [List.getD, List.getElem?_eq_getElem h1, List.getElem?_eq_getElem h2, Option.getD_some] at e
    rw [List.take_add_one, List.take_add_one, h, List.getElem?_eq_getElem h1, List.getElem?_eq_getElem h2, e]
set_option maxRecDepth 100000 in
set_option maxHeartbeats 1000000 in
theorem compare_near (n r0 r1 r2 r3 r4 s0 s1 s2 s3 s4 : Int) (h : [r0, r1, r2, r3, r4] ≠ [s0, s1, s2, s3, s4]) (w : World) :
    Calls Tryd.prog 39 #[.agg #[.int .i64 n, .int .i64 r0, .int .i64 r1, .int .i64 r2, .int .i64 r3, .int .i64 r4], .agg #[.int .i64 n, .int .i64 s0, .int .i64 s1, .int .i64 s2, .int .i64 s3, .int .i64 s4]] w fun e w' => e = .returned (.int .i64 (lex [r0, r1, r2, r3, r4] [s0, s1, s2, s3, s4])) ∧ Below w.heap.size w w' := by
  have he : ∀ w, _ := arr_eq r0 r1 r2 r3 r4 s0 s1 s2 s3 s4
  have hd : decide (r0 = s0 ∧ r1 = s1 ∧ r2 = s2 ∧ r3 = s3 ∧ r4 = s4) = false := decide_eq_false (fun ⟨a, b, c, d, e⟩ => h (by rw [a, b, c, d, e]))
  rw [hd] at he
  clear hd
  have HB := Lib.hid ((below_alloc w (.cells #[.int .i64 n, .int .i64 r0, .int .i64 r1, .int .i64 r2, .int .i64 r3, .int .i64 r4] 24)).alloc (by rw [size_alloc]; omega) (.cells #[.int .i64 n, .int .i64 s0, .int .i64 s1, .int .i64 s2, .int .i64 s3, .int .i64 s4] 24))
  have HF := Lib.hid (cell_fst w n r0 r1 r2 r3 r4 24 (.cells #[.int .i64 n, .int .i64 s0, .int .i64 s1, .int .i64 s2, .int .i64 s3, .int .i64 s4] 24))
  have HS := Lib.hid (cell_snd w n s0 s1 s2 s3 s4 24 (.cells #[.int .i64 n, .int .i64 r0, .int .i64 r1, .int .i64 r2, .int .i64 r3, .int .i64 r4] 24))
  have hc0 : cmp n n = 0 := cmp_zero.2 rfl
  have HC0 := Lib.hid (cmp_ok n n)
  rw [hc0] at HC0
  clear hc0
  have HN := Lib.hid h
  clear h
  go_enter Tryd.func39, Tryd.ntmps39
  go_wp2_with (go_at_call 40; refine (HC0.out _).mono ?_; rintro e w' ⟨rfl, rfl⟩)
  have hl1 : [r0, r1, r2, r3, r4].length = 5 := rfl
  have hl2 : [s0, s1, s2, s3, s4].length = 5 := rfl
  generalize hR : [r0, r1, r2, r3, r4] = R at *
  generalize hS : [s0, s1, s2, s3, s4] = S at *
  have ER := Lib.hid hR
  have ES := Lib.hid hS
  clear hR hS
  generalize World.alloc (World.alloc w _) _ = W2 at *
  have HL1 := Lib.hid hl1
  have HL2 := Lib.hid hl2
  clear hl1 hl2
  go_loopw [5, 6] (fun c p wr => ∃ (k m : Nat) (x : Int), k ≤ 5 ∧ p = .int .i64 k ∧ c = .int .i64 x ∧ wr = W2.drewN m ∧ lex R S = (if x = 0 then lex (R.drop k) (S.drop k) else x) ∧ (x = 0 → R.take k = S.take k)) (fun _ p _ => 5 - (intOf p).toNat)
  case atStart => exact ⟨0, 0, 0, by omega, rfl, rfl, rfl, by simp, fun _ => rfl⟩
  case round =>
    obtain ⟨k, m, x, hk, rfl, rfl, rfl, hlex, htake⟩ := hrel
    have HLX := Lib.hid hlex
    have HT := Lib.hid htake
    clear hlex htake
    by_cases hx : x = 0
    · subst hx
      have hlt : k < 5 := by
        by_cases h5 : k < 5
        · exact h5
        · exfalso
          have h := HT.out rfl
          rw [List.take_of_length_le (by rw [HL1.out]; omega), List.take_of_length_le (by rw [HL2.out]; omega)] at h
          exact HN.out h
      have hc1 := HF.out k hlt
      have hc2 := HS.out k hlt
      have HST := Lib.hid (lex_step (R := R) (S := S) (k := k) (by rw [HL1.out]; exact hlt) (by rw [HL2.out]; exact hlt) (HT.out rfl))
      have HC := Lib.hid (cmp_ok (R.getD k 0) (S.getD k 0))
      generalize R.getD k 0 = a at *
      generalize S.getD k 0 = b at *
      generalize cmp a b = c at *
      go_wp2
      go_quiet ((go_at_call 40; exact quiet_pure HC.out))
      go_wp2
      exact ⟨⟨k + 1, m + nq, c, by omega, by go_num, rfl, rfl, by rw [HLX.out, if_pos trivial]; exact HST.out.1, HST.out.2⟩, by simp [intOf]; omega⟩
    · have hb : (x == 0) = false := beq_eq_false_iff_ne.2 hx
      have HX := Lib.hid hx
      clear hx
      go_wp2
      go_ret
      exact ⟨ret_int (by rw [ER.out, ES.out, HLX.out, if_neg HX.out]), below_drewN HB.out _⟩
theorem compare_any (n r0 r1 r2 r3 r4 m s0 s1 s2 s3 s4 : Int) (w : World) :
    Calls Tryd.prog 39 #[.agg #[.int .i64 n, .int .i64 r0, .int .i64 r1, .int .i64 r2, .int .i64 r3, .int .i64 r4], .agg #[.int .i64 m, .int .i64 s0, .int .i64 s1, .int .i64 s2, .int .i64 s3, .int .i64 s4]] w fun e w' => e = .returned (.int .i64 (lex [n, r0, r1, r2, r3, r4] [m, s0, s1, s2, s3, s4])) ∧ Below w.heap.size w w' := by
  by_cases h : n = m
  · subst h
    rw [lex_same]
    by_cases h2 : [r0, r1, r2, r3, r4] = [s0, s1, s2, s3, s4]
    · simp only [List.cons.injEq, and_true] at h2
      obtain ⟨rfl, rfl, rfl, rfl, rfl⟩ := h2
      rw [lex_same, lex_same, lex_same, lex_same, lex_same]
      exact compare_same _ _ _ _ _ _ w
    · exact compare_near _ _ _ _ _ _ _ _ _ _ _ h2 w
  · rw [lex_ne h]
    exact compare_far _ _ _ _ _ _ _ _ _ _ _ _ h w
set_option maxRecDepth 100000 in
set_option maxHeartbeats 1000000 in
theorem rcompare_any (n r0 r1 r2 r3 r4 m s0 s1 s2 s3 s4 : Int) (w : World) :
    Calls Tryd.prog 41 #[.agg #[.int .i64 n, .int .i64 r0, .int .i64 r1, .int .i64 r2, .int .i64 r3, .int .i64 r4], .agg #[.int .i64 m, .int .i64 s0, .int .i64 s1, .int .i64 s2, .int .i64 s3, .int .i64 s4]] w fun e w' => e = .returned (.int .i64 (lex [n, r0, r1, r2, r3, r4] [m, s0, s1, s2, s3, s4])) ∧ Below w.heap.size w w' := by
  have HB := Lib.hid ((below_alloc w (.cells #[.int .i64 n, .int .i64 r0, .int .i64 r1, .int .i64 r2, .int .i64 r3, .int .i64 r4] 24)).alloc (by rw [size_alloc]; omega) (.cells #[.int .i64 m, .int .i64 s0, .int .i64 s1, .int .i64 s2, .int .i64 s3, .int .i64 s4] 24))
  have HF := Lib.hid (cell_fst w n r0 r1 r2 r3 r4 24 (.cells #[.int .i64 m, .int .i64 s0, .int .i64 s1, .int .i64 s2, .int .i64 s3, .int .i64 s4] 24))
  have HS := Lib.hid (cell_snd w m s0 s1 s2 s3 s4 24 (.cells #[.int .i64 n, .int .i64 r0, .int .i64 r1, .int .i64 r2, .int .i64 r3, .int .i64 r4] 24))
  by_cases h1 : n < m
  · rw [lex, if_pos h1]
    go_enter Tryd.func41, Tryd.ntmps41
    go_wp2
    go_ret
    exact ⟨rfl, HB.out⟩
  · rw [lex, if_neg h1]
    by_cases h2 : m < n
    · rw [if_pos h2]
      go_enter Tryd.func41, Tryd.ntmps41
      go_wp2
      go_ret
      exact ⟨rfl, HB.out⟩
    · rw [if_neg h2]
      go_enter Tryd.func41, Tryd.ntmps41
      go_wp2
      have hl1 : [r0, r1, r2, r3, r4].length = 5 := rfl
      have hl2 : [s0, s1, s2, s3, s4].length = 5 := rfl
      generalize hR : [r0, r1, r2, r3, r4] = R at *
      generalize hS : [s0, s1, s2, s3, s4] = S at *
      have ER := Lib.hid hR
      have ES := Lib.hid hS
      clear hR hS
      generalize World.alloc (World.alloc w _) _ = W2 at *
      have HL1 := Lib.hid hl1
      have HL2 := Lib.hid hl2
      clear hl1 hl2
      go_loopw [5] (fun p wr => ∃ (k q : Nat), k ≤ 5 ∧ p = .int .i64 k ∧ wr = W2.drewN q ∧ lex R S = lex (R.drop k) (S.drop k)) (fun p _ => 5 - (intOf p).toNat)
      case atStart => exact ⟨0, 0, by omega, rfl, rfl, rfl⟩
      case round =>
        obtain ⟨k, q, hk, rfl, rfl, hlex⟩ := hrel
        have HLX := Lib.hid hlex
        clear hlex
        by_cases hlt : k < 5
        · have hc1 := HF.out k hlt
          have hc2 := HS.out k hlt
          have HST := Lib.hid (show lex (R.drop k) (S.drop k) = if R.getD k 0 < S.getD k 0 then -1 else if S.getD k 0 < R.getD k 0 then 1 else lex (R.drop (k + 1)) (S.drop (k + 1)) from by
            rw [drop_cons (l := R) (by rw [HL1.out]; exact hlt), drop_cons (l := S) (by rw [HL2.out]; exact hlt), lex])
          generalize R.getD k 0 = a at *
          generalize S.getD k 0 = b at *
          by_cases ha : a < b
          · go_wp2
            go_quiet (fail)
            go_wp2
            go_ret
            exact ⟨ret_int (by rw [ER.out, ES.out, HLX.out, HST.out, if_pos (by omega)]), by simp only [World.drewN_drewN]; exact below_drewN HB.out _⟩
          · by_cases hb : b < a
            · go_wp2
              go_quiet (fail)
              go_wp2
              go_quiet (fail)
              go_wp2
              go_ret
              exact ⟨ret_int (by rw [ER.out, ES.out, HLX.out, HST.out, if_neg (by omega), if_pos (by omega)]), by simp only [World.drewN_drewN]; exact below_drewN HB.out _⟩
            · go_wp2
              go_quiet (fail)
              go_wp2
              go_quiet (fail)
              go_wp2
              exact ⟨⟨k + 1, _, by omega, by go_num, rfl, by rw [HLX.out, HST.out, if_neg (by omega), if_neg (by omega)]⟩, by simp [intOf]; omega⟩
        · have hk' : k = 5 := by omega
          subst hk'
          go_wp2
          go_ret
          exact ⟨ret_int (by rw [ER.out, ES.out, HLX.out, List.drop_of_length_le (by rw [HL1.out]; omega), List.drop_of_length_le (by rw [HL2.out]; omega)]; rfl), below_drewN HB.out _⟩
end Go.Proofs.YtlineonmpbdkgaaDoor.Graph
namespace Go.Proofs.YtlineonmpbdkgaaDoor.Graph
open Go Go.RowKit Go.Graph Go.Law
open Go.Proofs.YtlineonmpbdkgaaDoor.Col

theorem bel_le {B : Nat} {w w' : World} (h : Below w.heap.size w w') (hB : B ≤ w.heap.size) : Below B w w' := h.mono hB
theorem procs_ok (n : Nat) (h1 : 1 ≤ n) (h5 : n ≤ 5) (w : World) : Calls Tryd.prog 54 #[.int .i64 n] w fun e w' => e = .returned (.int .i64 0) ∧ w = w' := by
  have h1' : ¬ (n : Int) < 1 := by omega
  have h5' : ¬ (n : Int) > 5 := by omega
  go_enter Tryd.func54, Tryd.ntmps54
  go_wp2
  go_ret
  exact ⟨rfl, rfl⟩
theorem rpcheck_ok (n : Nat) (h1 : 1 ≤ n) (h5 : n ≤ 5) (x : Nat) (hx : x < 2 ^ n) (w : World) : Calls Tryd.prog 37 #[.int .i64 n, .int .i64 x] w fun e w' => e = .returned (.int .i64 0) ∧ w = w' := by
  have hx1 : ¬ (x : Int) ≥ ((2 ^ n : Nat) : Int) := by omega
  have hx0 : ¬ (x : Int) < 0 := by omega
  have HP := Lib.hid (power_any n h5)
  generalize 2 ^ n = P at *
  go_enter Tryd.func37, Tryd.ntmps37
  go_wp2_with (first | (go_at_call 54; refine (procs_ok n h1 h5 _).mono ?_; rintro e w' ⟨rfl, rfl⟩) | (go_at_call 63; refine (HP.out _).mono ?_; rintro e w' ⟨rfl, rfl⟩))
  go_ret
  exact ⟨rfl, rfl⟩
theorem rpcheck_bad (n : Nat) (h1 : 1 ≤ n) (h5 : n ≤ 5) (x : Int) (hx : x < 0 ∨ ((2 ^ n : Nat) : Int) ≤ x) (w : World) : Calls Tryd.prog 37 #[.int .i64 n, .int .i64 x] w fun e w' => e = .returned (.int .i64 2) ∧ w = w' := by
  have HP := Lib.hid (power_any n h5)
  rcases hx with hx | hx
  · generalize 2 ^ n = P at *
    go_enter Tryd.func37, Tryd.ntmps37
    go_wp2_with (first | (go_at_call 54; refine (procs_ok n h1 h5 _).mono ?_; rintro e w' ⟨rfl, rfl⟩) | (go_at_call 63; refine (HP.out _).mono ?_; rintro e w' ⟨rfl, rfl⟩))
    go_ret
    exact ⟨rfl, rfl⟩
  · generalize 2 ^ n = P at *
    have hx1 : x ≥ (P : Int) := hx
    have hx0 : ¬ x < 0 := by omega
    clear hx
    go_enter Tryd.func37, Tryd.ntmps37
    go_wp2_with (first | (go_at_call 54; refine (procs_ok n h1 h5 _).mono ?_; rintro e w' ⟨rfl, rfl⟩) | (go_at_call 63; refine (HP.out _).mono ?_; rintro e w' ⟨rfl, rfl⟩))
    go_ret
    exact ⟨rfl, rfl⟩

theorem seven (w : World) (n r0 r1 r2 r3 r4 f : Int) : ∀ w1 : World, Below (w.alloc (.cells #[.int .i64 n, .int .i64 r0, .int .i64 r1, .int .i64 r2, .int .i64 r3, .int .i64 r4, .int .i64 f] 26)).heap.size (w.alloc (.cells #[.int .i64 n, .int .i64 r0, .int .i64 r1, .int .i64 r2, .int .i64 r3, .int .i64 r4, .int .i64 f] 26)) w1 →
    Below w.heap.size w w1 ∧ w1.cell? ⟨w.heap.size, 0, none⟩ = some (.int .i64 n) ∧ w1.cell? ⟨w.heap.size, 6, none⟩ = some (.int .i64 f) := by
  intro w1 hb
  refine ⟨(below_alloc w _).trans (bel_le hb (below_alloc w _).size), ?_, ?_⟩
  · rw [hb.cell (by rw [size_alloc]; exact Nat.lt_succ_self _), World.cell?_alloc_at _ _ _ _ rfl]; rfl
  · rw [hb.cell (by rw [size_alloc]; exact Nat.lt_succ_self _), World.cell?_alloc_at _ _ _ _ rfl]; rfl
/-- The error of a round. -/
def rcheck (n : Int) (r : List Int) (f : Int) : Int := if check n r ≠ 0 then check n r else if f < 0 ∨ ((2 ^ n.toNat : Nat) : Int) ≤ f then 2 else 0
theorem check_size {n : Int} {r : List Int} (h : check n r = 0) : 1 ≤ n ∧ n ≤ 5 := by
  unfold check at h
  split at h
  · omega
  · omega
theorem round_check (n r0 r1 r2 r3 r4 f : Int) (w : World) :
    Calls Tryd.prog 9 #[.agg #[.int .i64 n, .int .i64 r0, .int .i64 r1, .int .i64 r2, .int .i64 r3, .int .i64 r4, .int .i64 f]] w fun e w' => e = .returned (.int .i64 (rcheck n [r0, r1, r2, r3, r4] f)) ∧ Below w.heap.size w w' := by
  have HG := Lib.hid (gcheck n r0 r1 r2 r3 r4)
  have H7 := Lib.hid (seven w n r0 r1 r2 r3 r4 f)
  unfold rcheck
  by_cases hc : check n [r0, r1, r2, r3, r4] = 0
  · rw [if_neg (by omega)]
    obtain ⟨h1, h5⟩ := check_size hc
    obtain ⟨k, rfl⟩ := Int.eq_ofNat_of_zero_le (show 0 ≤ n by omega)
    rw [hc] at HG
    clear hc
    rw [Int.toNat_natCast]
    by_cases hf : f < 0 ∨ ((2 ^ k : Nat) : Int) ≤ f
    · rw [if_pos hf]
      have HF := Lib.hid (pcheck_bad k (by omega) (by omega) f hf)
      clear hf
      go_enter Tryd.func9, Tryd.ntmps9
      go_wp2_with (first | (go_at_call 34; refine (HG.out _).mono ?_; rintro e w1 ⟨rfl, hb⟩; obtain ⟨hB, c0, c6⟩ := H7.out _ hb; have HB := Lib.hid hB; clear hb hB) | (go_at_call 35; refine (HF.out _).mono ?_; rintro e w' ⟨rfl, rfl⟩))
      go_ret
      exact ⟨rfl, HB.out⟩
    · rw [if_neg hf]
      obtain ⟨q, rfl⟩ := Int.eq_ofNat_of_zero_le (show 0 ≤ f by omega)
      have HF := Lib.hid (pcheck_ok k (by omega) (by omega) q (by omega))
      clear hf
      go_enter Tryd.func9, Tryd.ntmps9
      go_wp2_with (first | (go_at_call 34; refine (HG.out _).mono ?_; rintro e w1 ⟨rfl, hb⟩; obtain ⟨hB, c0, c6⟩ := H7.out _ hb; have HB := Lib.hid hB; clear hb hB) | (go_at_call 35; refine (HF.out _).mono ?_; rintro e w' ⟨rfl, rfl⟩))
      go_ret
      exact ⟨rfl, HB.out⟩
  · rw [if_pos hc]
    generalize check n [r0, r1, r2, r3, r4] = c at *
    have hb : (c != 0) = true := by simpa using hc
    clear hc
    go_enter Tryd.func9, Tryd.ntmps9
    go_wp2_with (go_at_call 34; refine (HG.out _).mono ?_; rintro e w1 ⟨rfl, hb1⟩; obtain ⟨hB, c0, c6⟩ := H7.out _ hb1; have HB := Lib.hid hB; clear hb1 hB)
    go_ret
    exact ⟨rfl, HB.out⟩
theorem rround_check (n r0 r1 r2 r3 r4 f : Int) (w : World) :
    Calls Tryd.prog 10 #[.agg #[.int .i64 n, .int .i64 r0, .int .i64 r1, .int .i64 r2, .int .i64 r3, .int .i64 r4, .int .i64 f]] w fun e w' => e = .returned (.int .i64 (rcheck n [r0, r1, r2, r3, r4] f)) ∧ Below w.heap.size w w' := by
  have HG := Lib.hid (grcheck n r0 r1 r2 r3 r4)
  have H7 := Lib.hid (seven w n r0 r1 r2 r3 r4 f)
  unfold rcheck
  by_cases hc : check n [r0, r1, r2, r3, r4] = 0
  · rw [if_neg (by omega)]
    obtain ⟨h1, h5⟩ := check_size hc
    obtain ⟨k, rfl⟩ := Int.eq_ofNat_of_zero_le (show 0 ≤ n by omega)
    rw [hc] at HG
    clear hc
    rw [Int.toNat_natCast]
    by_cases hf : f < 0 ∨ ((2 ^ k : Nat) : Int) ≤ f
    · rw [if_pos hf]
      have HF := Lib.hid (rpcheck_bad k (by omega) (by omega) f hf)
      clear hf
      go_enter Tryd.func10, Tryd.ntmps10
      go_wp2_with (first | (go_at_call 36; refine (HG.out _).mono ?_; rintro e w1 ⟨rfl, hb⟩; obtain ⟨hB, c0, c6⟩ := H7.out _ hb; have HB := Lib.hid hB; clear hb hB) | (go_at_call 37; refine (HF.out _).mono ?_; rintro e w' ⟨rfl, rfl⟩))
      go_ret
      exact ⟨rfl, HB.out⟩
    · rw [if_neg hf]
      obtain ⟨q, rfl⟩ := Int.eq_ofNat_of_zero_le (show 0 ≤ f by omega)
      have HF := Lib.hid (rpcheck_ok k (by omega) (by omega) q (by omega))
      clear hf
      go_enter Tryd.func10, Tryd.ntmps10
      go_wp2_with (first | (go_at_call 36; refine (HG.out _).mono ?_; rintro e w1 ⟨rfl, hb⟩; obtain ⟨hB, c0, c6⟩ := H7.out _ hb; have HB := Lib.hid hB; clear hb hB) | (go_at_call 37; refine (HF.out _).mono ?_; rintro e w' ⟨rfl, rfl⟩))
      go_ret
      exact ⟨rfl, HB.out⟩
  · rw [if_pos hc]
    generalize check n [r0, r1, r2, r3, r4] = c at *
    have hb : (c != 0) = true := by simpa using hc
    clear hc
    go_enter Tryd.func10, Tryd.ntmps10
    go_wp2_with (go_at_call 36; refine (HG.out _).mono ?_; rintro e w1 ⟨rfl, hb1⟩; obtain ⟨hB, c0, c6⟩ := H7.out _ hb1; have HB := Lib.hid hB; clear hb1 hB)
    go_ret
    exact ⟨rfl, HB.out⟩
end Go.Proofs.YtlineonmpbdkgaaDoor.Graph
