/-
  Whether all edges of a graph are edges of another one.
-/
import Derived.Test.YtgkgdobmiejdhaaEvTGRoots
import Derived.Deep.RegionHeld3
namespace Go.Proofs.Ytgkgdobmiejdhaa.Graph
open Go Go.RowKit Go.Graph Go.Law
open Go.Proofs.Ytgkgdobmiejdhaa.Col

set_option maxRecDepth 100000 in
set_option maxHeartbeats 1000000 in
theorem build67 (n : Nat) (h5 : n ≤ 5) (g : Nat → Int) (p q : Addr) (w : World)
    (hf : ∀ i : Nat, i < n → ∀ w', Below w.heap.size w w' → Calls Try.prog 24 #[.int .i64 i, .pointer (some p), .pointer (some q)] w' fun e w'' => e = .returned (.int .i64 (g i)) ∧ Below w'.heap.size w' w'') :
    Calls Try.prog 22 #[.int .i64 n, .func (.func 24) #[] #[.pointer (some p), .pointer (some q)]] w fun e w' => e = .returned (.agg ⟨(Value.int .i64 n) :: (made g n).map (Value.int .i64)⟩) ∧ Below w.heap.size w w' := by
  have HF := Lib.hid hf
  clear hf
  have HB := Lib.hid (below_alloc w)
  go_enter Try.func22, Try.ntmps22
  go_wp2
  have HR := Lib.hid ((own_new w [.int .i64 0, .int .i64 0, .int .i64 0, .int .i64 0, .int .i64 0, .int .i64 0] 24).alloc (.cells #[.int .i64 n, .int .i64 0, .int .i64 0, .int .i64 0, .int .i64 0, .int .i64 0] 24))
  have HG := Lib.hid (own_new (w.alloc (.cells #[.int .i64 0, .int .i64 0, .int .i64 0, .int .i64 0, .int .i64 0, .int .i64 0] 24)) [.int .i64 n, .int .i64 0, .int .i64 0, .int .i64 0, .int .i64 0, .int .i64 0] 24)
  rw [size_alloc] at HG
  have HW := Lib.hid ((HB.out (.cells #[.int .i64 0, .int .i64 0, .int .i64 0, .int .i64 0, .int .i64 0, .int .i64 0] 24)).alloc (by rw [size_alloc]; omega) (.cells #[.int .i64 n, .int .i64 0, .int .i64 0, .int .i64 0, .int .i64 0, .int .i64 0] 24))
  generalize World.alloc (World.alloc w _) _ = W2 at *
  go_loopw [10] (fun i wr => ∃ k : Nat, k ≤ n ∧ i = .int .i64 k ∧ Below w.heap.size w wr ∧ Own wr w.heap.size 24 [.int .i64 0, .int .i64 0, .int .i64 0, .int .i64 0, .int .i64 0, .int .i64 0] ∧ Own wr (w.heap.size + 1) 24 (.int .i64 n :: (made g k).map (Value.int .i64))) (fun i _ => n - (intOf i).toNat)
  case atStart => exact ⟨0, Nat.zero_le _, rfl, HW.out, HR.out, HG.out⟩
  case round =>
    obtain ⟨k, hk, rfl, hbl, hres, hrow⟩ := hrel
    have HBL := Lib.hid hbl
    have HRES := Lib.hid hres
    have HROW := Lib.hid hrow
    clear hbl hres hrow
    by_cases hlt : k < n
    · have hk5 : k < 5 := by omega
      have HC := Lib.hid (row_cell n g k hk5)
      have HS := Lib.hid (row_set n g k hk5)
      have HG2 := Lib.hid (HF.out k hlt)
      generalize g k = gk at *
      go_wp2_with (go_at_call 24; refine (HG2.out _ HBL.out).mono ?_; rintro e w3 ⟨rfl, hb3⟩; have HO := Lib.hid (HROW.out.below hb3 HROW.out.lt); have hcell := HO.out.cell HC.out; have hfr := HO.out.free (1 + k); have HR3 := Lib.hid (HRES.out.below hb3 HRES.out.lt); have HB3 := Lib.hid (HBL.out.trans (bel_le hb3 HBL.out.size)); clear hb3)
      exact ⟨⟨k + 1, by omega, by go_num, HB3.out.setCell (Nat.le_succ _) _, HR3.out.set_far (Nat.succ_ne_self _) _, by rw [← HS.out]; exact HO.out.set (1 + k) _⟩, by simp [intOf]; omega⟩
    · have hk' : k = n := by omega
      subst hk'
      obtain ⟨a0, a1, a2, a3, a4, hm⟩ : ∃ a0 a1 a2 a3 a4, made g k = [a0, a1, a2, a3, a4] := ⟨_, _, _, _, _, rfl⟩
      have HM := Lib.hid hm
      rw [hm] at HROW
      clear hm
      have c0 := HROW.out.cell (j := 0) (v := .int .i64 k) rfl
      have c1 := HROW.out.cell (j := 1) (v := .int .i64 a0) rfl
      have c2 := HROW.out.cell (j := 2) (v := .int .i64 a1) rfl
      have c3 := HROW.out.cell (j := 3) (v := .int .i64 a2) rfl
      have c4 := HROW.out.cell (j := 4) (v := .int .i64 a3) rfl
      have c5 := HROW.out.cell (j := 5) (v := .int .i64 a4) rfl
      have d0 := HRES.out.cell (j := 0) (v := .int .i64 0) rfl
      have d1 := HRES.out.cell (j := 1) (v := .int .i64 0) rfl
      have d2 := HRES.out.cell (j := 2) (v := .int .i64 0) rfl
      have d3 := HRES.out.cell (j := 3) (v := .int .i64 0) rfl
      have d4 := HRES.out.cell (j := 4) (v := .int .i64 0) rfl
      have d5 := HRES.out.cell (j := 5) (v := .int .i64 0) rfl
      have z0 := HRES.out.free 0
      have z1 := HRES.out.free 1
      have z2 := HRES.out.free 2
      have z3 := HRES.out.free 3
      have z4 := HRES.out.free 4
      have z5 := HRES.out.free 5
      go_wp2
      (try simp only [Exit.inBlock, Exit.then])
      refine bodyPost_ret (v := .agg #[.int .i64 k, .int .i64 a0, .int .i64 a1, .int .i64 a2, .int .i64 a3, .int .i64 a4]) (by simp [results, Try.results22, go_sem, d0, d1, d2, d3, d4, d5]) rfl ⟨by rw [HM.out]; rfl, ((((((HBL.out.setCell (Nat.le_refl _) _).setCell (Nat.le_refl _) _).setCell (Nat.le_refl _) _).setCell (Nat.le_refl _) _).setCell (Nat.le_refl _) _).setCell (Nat.le_refl _) _)⟩
theorem build67' (n : Nat) (h5 : n ≤ 5) (g : Nat → Int) (a0 a1 a2 a3 a4 : Int) (hm : made g n = [a0, a1, a2, a3, a4]) (p q : Addr) (w : World)
    (hf : ∀ i : Nat, i < n → ∀ w', Below w.heap.size w w' → Calls Try.prog 24 #[.int .i64 i, .pointer (some p), .pointer (some q)] w' fun e w'' => e = .returned (.int .i64 (g i)) ∧ Below w'.heap.size w' w'') :
    Calls Try.prog 22 #[.int .i64 n, .func (.func 24) #[] #[.pointer (some p), .pointer (some q)]] w fun e w' => e = .returned (.agg #[.int .i64 n, .int .i64 a0, .int .i64 a1, .int .i64 a2, .int .i64 a3, .int .i64 a4]) ∧ Below w.heap.size w w' := by
  have := build67 n h5 g p q w hf
  rw [hm] at this
  exact this
set_option maxRecDepth 100000 in
theorem inside_row (p : Nat) (hp : p < 5) (A B : Nat) (x y : Int) (w : World) (ha : w.cell? ⟨A, 1 + p, none⟩ = some (.int .i64 x)) (hb : w.cell? ⟨B, 1 + p, none⟩ = some (.int .i64 y)) :
    Calls Try.prog 24 #[.int .i64 p, .pointer (some ⟨A, 0, none⟩), .pointer (some ⟨B, 0, none⟩)] w fun e w' => e = .returned (.int .i64 (bits BinOp.or IntKind.i64 x y)) ∧ Below w.heap.size w w' := by
  go_enter Try.func24, Try.ntmps24
  go_wp2
  go_quiet (fail)
  go_wp2
  go_ret
  exact ⟨rfl, below_drewN (Below.refl _ _) _⟩
theorem wthn_no {a b : Nat → Nat} {n p : Nat} (hp : p < n) (h : a p &&& b p ≠ a p) : wthn a b n = false := by
  unfold wthn; rw [decide_eq_false_iff_not]; exact fun hn => h (hn p hp)
theorem wthn_yes {a b : Nat → Nat} {n : Nat} (h : Within a b n) : wthn a b n = true := by unfold wthn; simpa using h
theorem sub_yes (x y : Nat) (hx : x < 32) (hy : y < 32) (h : x &&& y = x) : (bits BinOp.and IntKind.i64 (x : Int) (y : Int) != (x : Int)) = false := by rw [and_nat x y hx hy, h]; simp
theorem sub_no (x y : Nat) (hx : x < 32) (hy : y < 32) (h : x &&& y ≠ x) : (bits BinOp.and IntKind.i64 (x : Int) (y : Int) != (x : Int)) = true := by rw [and_nat x y hx hy]; simp; omega
theorem keepTwo {w w' : World} {A B : Nat} {n r0 r1 r2 r3 r4 m s0 s1 s2 s3 s4 : Int} (h : Row6 w A n r0 r1 r2 r3 r4 ∧ Row6 w B m s0 s1 s2 s3 s4) (hb : Below w.heap.size w w') : Row6 w' A n r0 r1 r2 r3 r4 ∧ Row6 w' B m s0 s1 s2 s3 s4 := ⟨row_below h.1 hb, row_below h.2 hb⟩
theorem inside_dec {n : Nat} {a b : Nat → Nat} (ha : WF n a) (hb : WF n b) : decide ((b 0 : Int) = (join a b 0 : Nat) ∧ (b 1 : Int) = (join a b 1 : Nat) ∧ (b 2 : Int) = (join a b 2 : Nat) ∧ (b 3 : Int) = (join a b 3 : Nat) ∧ (b 4 : Int) = (join a b 4 : Nat)) = wthn a b n := by
  unfold wthn
  rw [decide_eq_decide, ← within_join ha hb]
  constructor
  · rintro ⟨h0, h1, h2, h3, h4⟩ i hi
    rcases (by omega : i = 0 ∨ i = 1 ∨ i = 2 ∨ i = 3 ∨ i = 4) with rfl | rfl | rfl | rfl | rfl <;> omega
  · intro h
    refine ⟨?_, ?_, ?_, ?_, ?_⟩
    · rw [← h 0 (by omega)]
    · rw [← h 1 (by omega)]
    · rw [← h 2 (by omega)]
    · rw [← h 3 (by omega)]
    · rw [← h 4 (by omega)]
set_option maxRecDepth 100000 in
set_option maxHeartbeats 2000000 in
theorem inside_wf {n : Nat} {a b : Nat → Nat} (ha : WF n a) (hb : WF n b) (w : World) : Calls Try.prog 8 #[.agg #[.int .i64 n, .int .i64 (a 0), .int .i64 (a 1), .int .i64 (a 2), .int .i64 (a 3), .int .i64 (a 4)], .agg #[.int .i64 n, .int .i64 (b 0), .int .i64 (b 1), .int .i64 (b 2), .int .i64 (b 3), .int .i64 (b 4)]] w fun e w' => e = .returned (.tuple #[.bool (wthn a b n), .int .i64 0]) ∧ Below w.heap.size w w' := by
  have HB := Lib.hid (both_wf ha hb)
  have HM := Lib.hid (made_join ha hb)
  have h5 := ha.top
  have he : ∀ w : World, (Op.equalIn 9999 22 (.agg #[.int .i64 (b 0), .int .i64 (b 1), .int .i64 (b 2), .int .i64 (b 3), .int .i64 (b 4)]) (.agg #[.int .i64 (join a b 0 : Nat), .int .i64 (join a b 1 : Nat), .int .i64 (join a b 2 : Nat), .int .i64 (join a b 3 : Nat), .int .i64 (join a b 4 : Nat)])).run Try.prog w = .ok (wthn a b n) w := by
    intro w
    rw [arr_eq, inside_dec ha hb]
  clear ha hb
  generalize wthn a b n = d at *
  generalize hp0 : join a b 0 = p0 at *
  generalize hp1 : join a b 1 = p1 at *
  generalize hp2 : join a b 2 = p2 at *
  generalize hp3 : join a b 3 = p3 at *
  generalize hp4 : join a b 4 = p4 at *
  clear hp0 hp1 hp2 hp3 hp4
  cases d
  all_goals
    have T0 := Lib.hid ((below_alloc w (.cells #[.int .i64 n, .int .i64 (a 0), .int .i64 (a 1), .int .i64 (a 2), .int .i64 (a 3), .int .i64 (a 4)] 24)).alloc (by rw [size_alloc]; omega) (.cells #[.int .i64 n, .int .i64 (b 0), .int .i64 (b 1), .int .i64 (b 2), .int .i64 (b 3), .int .i64 (b 4)] 24))
    have RA := Lib.hid (row_alloc (row_new w n (a 0) (a 1) (a 2) (a 3) (a 4)) (.cells #[.int .i64 n, .int .i64 (b 0), .int .i64 (b 1), .int .i64 (b 2), .int .i64 (b 3), .int .i64 (b 4)] 24))
    have RB := Lib.hid (row_new (w.alloc (.cells #[.int .i64 n, .int .i64 (a 0), .int .i64 (a 1), .int .i64 (a 2), .int .i64 (a 3), .int .i64 (a 4)] 24)) n (b 0) (b 1) (b 2) (b 3) (b 4))
    rw [size_alloc] at RB
    have HBI := Lib.hid (fun (z : World) (hz : Row6 z w.heap.size n (a 0) (a 1) (a 2) (a 3) (a 4) ∧ Row6 z (w.heap.size + 1) n (b 0) (b 1) (b 2) (b 3) (b 4)) => build67' n h5 (fun i => bits BinOp.or IntKind.i64 ([(a 0 : Int), (a 1 : Int), (a 2 : Int), (a 3 : Int), (a 4 : Int)].getD i 0) ([(b 0 : Int), (b 1 : Int), (b 2 : Int), (b 3 : Int), (b 4 : Int)].getD i 0)) p0 p1 p2 p3 p4 HM.out ⟨w.heap.size, 0, none⟩ ⟨w.heap.size + 1, 0, none⟩ z (fun i hi w' hw => inside_row i (by omega) _ _ _ _ _ (row_at6 (row_below hz.1 hw) i (by omega)) (row_at6 (row_below hz.2 hw) i (by omega))))
    go_enter Try.func8, Try.ntmps8
    go_wp2_with (go_at_call 21; refine (HB.out _).mono ?_; rintro e w1 ⟨rfl, hb1⟩; have t1 := Lib.hid (T0.out.trans (bel_le hb1 T0.out.size)); have RA1 := Lib.hid (row_below RA.out hb1); have RB1 := Lib.hid (row_below RB.out hb1); clear hb1)
    have hsd := And.intro RA1.out RB1.out
    go_region_held3 (fun z : World => (z.cell? ⟨w.heap.size, 0, none⟩ = some (.int .i64 n) ∧ z.cell? ⟨w.heap.size, 1, none⟩ = some (.int .i64 (a 0)) ∧ z.cell? ⟨w.heap.size, 2, none⟩ = some (.int .i64 (a 1)) ∧ z.cell? ⟨w.heap.size, 3, none⟩ = some (.int .i64 (a 2)) ∧ z.cell? ⟨w.heap.size, 4, none⟩ = some (.int .i64 (a 3)) ∧ z.cell? ⟨w.heap.size, 5, none⟩ = some (.int .i64 (a 4))) ∧ (z.cell? ⟨w.heap.size + 1, 0, none⟩ = some (.int .i64 n) ∧ z.cell? ⟨w.heap.size + 1, 1, none⟩ = some (.int .i64 (b 0)) ∧ z.cell? ⟨w.heap.size + 1, 2, none⟩ = some (.int .i64 (b 1)) ∧ z.cell? ⟨w.heap.size + 1, 3, none⟩ = some (.int .i64 (b 2)) ∧ z.cell? ⟨w.heap.size + 1, 4, none⟩ = some (.int .i64 (b 3)) ∧ z.cell? ⟨w.heap.size + 1, 5, none⟩ = some (.int .i64 (b 4)))) (first | exact hsd | assumption | exact keepTwo (by assumption) hb53) (first
      | (go_at_call 22; refine (HBI.out _ (by assumption)).mono ?_; rintro e w2 ⟨rfl, hb53⟩))
    go_wp2
    go_ret2
    exact ⟨rfl, t1.out.drew.trans (bel_le hb53 t1.out.drew.size)⟩
end Go.Proofs.Ytgkgdobmiejdhaa.Graph
